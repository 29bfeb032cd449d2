"""What is a game, what is told first of what is none, its first state, and how it is named anew."""

import itertools
import unittest

from knownplay.errors import Unfit
from knownplay.games import first_state, game_error, renamed
from knownplay.terms import asked, holds, worth
from tests.things import CARD, DEAL, ODD_VALUES, SHOW, YES, ZERO, Things, with_part

DEED = (0, 1, YES, (), (0,))


def game(players=2, cells=((2, 0),), deeds=(DEED,), sights="all"):
    """A game of these parts; everybody sees all if no sights are told."""
    if sights == "all":
        many = len(cells) if isinstance(cells, tuple) else 1
        sights = ((YES,) * many,) * (players if players in (3, 4) else 2)
    return (players, cells, deeds, sights)


def paths(value, path=()):
    """The paths to all items within tuples of value, in order."""
    found = [path]
    if isinstance(value, tuple):
        for number, item in enumerate(value):
            found.extend(paths(item, path + (number,)))
    return found


def item_at(value, path):
    """The item of value to which path leads."""
    for number in path:
        value = value[number]
    return value


def wanted_error(value, path):
    """What game_error has to tell of value, a game, if something that never fits stands at path."""
    way = path if isinstance(item_at(value, path), tuple) else path[:-1]
    if len(path) < 2:
        return ("players", "cells", "deeds", "sights")[path[0]] if path else "form"
    if path[0] == 1:
        return ("cell", path[1])
    if path[0] == 3:
        return ("sight", path[1], path[2], ("part", way[3:])) if len(path) > 2 else ("sights", path[1])
    if len(path) == 2:
        return ("deed", path[1], "form")
    if path[2] == 2:
        return ("deed", path[1], ("guard", ("part", way[3:])))
    if path[2] != 3 or len(path) == 3:
        return ("deed", path[1], ("doer", "outcomes", "guard", "effects", "seen")[path[2]])
    if len(path) == 4 or path[4] == 0:
        return ("deed", path[1], ("effect", path[3]))
    return ("deed", path[1], ("term", path[3], ("part", way[5:])))


class GameErrors(unittest.TestCase):
    def check(self, value, wanted):
        self.assertEqual(game_error(value), wanted, value)

    def check_deed(self, deed, wanted, **parts):
        """Checks what is told of a deed, as the only one and behind one that is right."""
        self.check(game(deeds=(deed,), **parts), wanted if wanted is None else ("deed", 0, wanted))
        self.check(game(deeds=(DEED, deed), **parts), wanted if wanted is None else ("deed", 1, wanted))

    def test_games_are_told_to_be_games(self):
        things = Things(11)
        for value in [CARD, game()] + [things.game() for _ in range(60)]:
            self.assertIsNone(game_error(value))

    def test_form(self):
        for value in (None, CARD[:3], CARD + (0,), list(CARD), (), [], {}, "card", (CARD,), 4):
            self.check(value, "form")

    def test_any_value_is_none(self):
        for value in ODD_VALUES:
            quadruple = isinstance(value, tuple) and len(value) == 4
            wanted = "form" if not quadruple else "players" if value[0] != 2 else "cells"
            self.assertEqual(game_error(value), wanted)

    def test_players(self):
        for players in (2, 3, 4):
            self.check(game(players), None)
        for players in (1, 0, -1, 5, 10 ** 399, True, False, None, "2", (2,), [2], 2 * (None,)):
            self.check(game(players), "players")

    def test_cells(self):
        for many in range(1, 7):
            self.check(game(cells=((2, 0),) * many), None)
        for cells in ((), ((2, 0),) * 7, [(2, 0)], None, 1, "cells", {}):
            self.check(game(cells=cells), "cells")

    def test_each_cell(self):
        for size in range(2, 7):
            for first in range(size):
                self.check(game(cells=((size, first),)), None)
            for first in (-1, size, size + 1, True, False, None, "0", (0,)):
                self.check(game(cells=((size, first),)), ("cell", 0))
        for cell in (
            (1, 0), (0, 0), (7, 0), (-2, 0), (True, 0), (None, 0), ("2", 0), (2,), (2, 0, 0), (), [2, 0], None, 2,
        ):
            self.check(game(cells=((3, 1), (2, 1), cell)), ("cell", 2))
            self.check(game(cells=(cell, (2, 1), cell)), ("cell", 0))

    def test_deeds(self):
        for many in range(1, 9):
            self.check(game(deeds=(DEED,) * many), None)
        for deeds in ((), (DEED,) * 9, [DEED], None, "deeds", 1, {}):
            self.check(game(deeds=deeds), "deeds")

    def test_forms_of_deeds(self):
        for deed in (DEED[:4], DEED + (0,), list(DEED), (), None, 0, "deed"):
            self.check_deed(deed, "form")

    def test_doers(self):
        for players in (2, 3, 4):
            for doer in range(players):
                self.check_deed((doer,) + DEED[1:4] + ((doer,),), None, players=players)
            self.check_deed((None,) + DEED[1:], None, players=players)
            for doer in (-1, players, 9, True, False, "0", (0,), [0], ()):
                self.check_deed((doer,) + DEED[1:], "doer", players=players)

    def test_outcomes(self):
        for outcomes in (1, 2, 3, 4):
            self.check_deed((0, outcomes) + DEED[2:], None)
        for outcomes in (0, -1, 5, 10 ** 399, True, None, "1", (1,)):
            self.check_deed((0, outcomes) + DEED[2:], "outcomes")

    def test_guards(self):
        deep = ("same", ZERO, ("sum", ZERO, ("sum", ZERO, ("sum", ZERO, ("sum", ZERO, ("sum", ZERO, ZERO))))))
        wide = ("both",) + 2 * (("both",) + 2 * (("both",) + 2 * (("both",) + 2 * (("both", YES, YES),),),),)
        for guard, error in (
            (("same", ("cell", 0), ("is", 1)), None), (("same", ("cell", 1), ("is", 1)), ("part", (1,))),
            (("done",), ("part", ())), (("not", ("done",)), ("part", (1,))),
            (("same", ("draw",), ZERO), ("part", (1,))), (("same", ZERO, ("deed",)), ("part", (2,))),
            (("same", ZERO, ("was", 0)), ("part", (2,))),
            (ZERO, ("part", ())), (None, ("part", ())), (deep, "deep"), (wide, "parts"),
        ):
            self.check_deed(DEED[:2] + (guard,) + DEED[3:], error and ("guard", error))

    def test_effects(self):
        set_0, set_1, set_2 = (0, ZERO), (1, ("draw",)), (2, ("cell", 2))
        cells = ((2, 0), (3, 0), (4, 0))
        for effects in ((), (set_0,), (set_2,), (set_0, set_2), (set_0, set_1, set_2)):
            self.check_deed(DEED[:3] + (effects, (0,)), None, cells=cells)
        for effects in (None, [], [set_0], {}, 0, "set"):
            self.check_deed(DEED[:3] + (effects, (0,)), "effects", cells=cells)
        for effects, k in (
            ((set_0, set_0), 1), ((set_1, set_0), 1), ((set_0, set_2, set_1), 2), ((set_0, set_1, set_1), 2),
            ((None,), 0), ((list(set_0),), 0), ((set_0 + (0,),), 0), (((0,),), 0), (((),), 0), (((3, ZERO),), 0),
            (((-1, ZERO),), 0),
            (((False, ZERO),), 0), (((None, ZERO),), 0), (((0, ZERO), (True, ZERO)), 1), (((3, YES),), 0),
            ((set_0, "set"), 1),
        ):
            self.check_deed(DEED[:3] + (effects, (0,)), ("effect", k), cells=cells)
        for effect, error in (
            ((1, YES), ("part", ())), ((1, ("sum", ZERO, ("was", 0))), ("part", (2,))), ((1, ("deed",)), ("part", ())),
            ((1, ("cell", 3)), ("part", ())), ((1, ("choose", ("done",), ZERO, ZERO)), ("part", (1,))),
            ((1, None), ("part", ())),
        ):
            self.check_deed(DEED[:3] + ((effect,), (0,)), ("term", 0, error), cells=cells)
            self.check_deed(DEED[:3] + ((set_0, effect, set_1), (0,)), ("term", 1, error), cells=cells)
            self.check_deed(DEED[:3] + ((set_0, set_0, effect), (0,)), ("effect", 1), cells=cells)

    def test_seen(self):
        for players in (2, 3, 4):
            for many in range(players + 1):
                for seen in itertools.combinations(range(players), many):
                    self.check_deed((None,) + DEED[1:4] + (seen,), None, players=players)
                    for doer in range(players):
                        wanted = None if doer in seen else "seen"
                        self.check_deed((doer,) + DEED[1:4] + (seen,), wanted, players=players)
            for seen in (
                (0, 0), (1, 0), (0, players), (-1, 0), (0, True), (False,), (None,), [0], None, 0, "0", ("0",), ((0,),),
            ):
                self.check_deed((0,) + DEED[1:4] + (seen,), "seen", players=players)
                self.check_deed((None,) + DEED[1:4] + (seen,), "seen", players=players)

    def test_sights(self):
        row = (YES, YES)
        cells = ((2, 0), (2, 0))
        for sights in ((row,), (row,) * 3, (), None, [row, row], "sights", 2):
            self.check(game(cells=cells, sights=sights), "sights")
        for bad in (None, (YES,), (YES,) * 3, (), list(row), YES, 0):
            self.check(game(cells=cells, sights=(row, bad)), ("sights", 1))
            self.check(game(cells=cells, sights=(bad, (None, None))), ("sights", 0))
        for bad, error in (
            (None, ("part", ())), (ZERO, ("part", ())), (("done",), ("part", ())), (("not", None), ("part", (1,))),
            (("same", ("draw",), ZERO), ("part", (1,))), (("same", ZERO, ("cell", 2)), ("part", (2,))),
            (("same", ZERO, ("was", 1)), ("part", (2,))), (("same", ("deed",), ZERO), ("part", (1,))),
        ):
            self.check(game(cells=cells, sights=(row, (YES, bad))), ("sight", 1, 1, error))
            self.check(game(cells=cells, sights=((bad, YES), (bad,))), ("sight", 0, 0, error))

    def test_faults_are_told_in_their_order(self):
        value = (5, [], [], [])
        deed = (7, 0, None, [], None)
        for path, part, wanted in (
            ((), value, "players"), ((0,), 2, "cells"), ((1,), ((1, 0), (9, 9)), ("cell", 0)),
            ((1, 0), (2, 1), ("cell", 1)), ((1, 1), (6, 5), "deeds"),
            ((2,), ((), None), ("deed", 0, "form")), ((2, 0), deed, ("deed", 0, "doer")),
            ((2, 0, 0), 1, ("deed", 0, "outcomes")), ((2, 0, 1), 4, ("deed", 0, ("guard", ("part", ())))),
            ((2, 0, 2), YES, ("deed", 0, "effects")),
            ((2, 0, 3), ((1, None), None), ("deed", 0, ("term", 0, ("part", ())))),
            ((2, 0, 3, 0, 1), ZERO, ("deed", 0, ("effect", 1))), ((2, 0, 3), ((1, ZERO),), ("deed", 0, "seen")),
            ((2, 0, 4), (0,), ("deed", 0, "seen")), ((2, 0, 4), (1,), ("deed", 1, "form")), ((2, 1), DEED, "sights"),
            ((3,), (None, (None, None)), ("sights", 0)), ((3, 0), (YES, None), ("sight", 0, 1, ("part", ()))),
            ((3, 0, 1), YES, ("sight", 1, 0, ("part", ()))), ((3, 1), (YES, YES), None),
        ):
            value = part if path == () else with_part(value, path, part)
            self.check(value, wanted)

    def test_whatever_does_not_fit_is_told_by_its_place(self):
        things = Things(12)
        for value in [CARD] + [things.game() for _ in range(12)]:
            for path in paths(value):
                for part in ([], {}, True, "", 10 ** 399, -1):
                    self.check(with_part(value, path, part), wanted_error(value, path))

    def test_the_first_of_two_faults_is_told(self):
        things = Things(13)
        for value in [CARD] + [things.game() for _ in range(20)]:
            found = paths(value)
            for _ in range(100):
                first, second = sorted(things.random.sample(found, 2))
                if second[:len(first)] != first:
                    spoilt = with_part(with_part(value, first, []), second, True)
                    self.check(spoilt, wanted_error(value, first))


class FirstStates(unittest.TestCase):
    def test_each_cell_has_its_first_value(self):
        self.assertEqual(first_state(game(cells=((6, 5), (2, 1), (3, 0), (4, 2)))), (5, 1, 0, 2))
        self.assertEqual(first_state(game(cells=((2, 1),))), (1,))


class Names(unittest.TestCase):
    def test_all_numbers_are_told_anew(self):
        cells = ((2, 0), (3, 1), (4, 2))
        deeds = (
            (0, 2, ("below", ("cell", 0), ("cell", 2)), ((0, ("draw",)), (1, ("cell", 0)), (2, ("is", 2))), (0, 2)),
            (None, 1, YES, (), ()),
            (2, 1, ("not", ("same", ("cell", 1), ("is", 1))), ((1, ("sum", ("cell", 1), ("is", 1))),), (1, 2)),
        )
        sights = tuple(tuple(("same", ("cell", c), ("is", 10 * p + c)) for c in range(3)) for p in range(3))
        value = (3, cells, deeds, sights)
        anew = renamed(value, ((1, 2, 0), (2, 0, 1), (2, 0, 1)))
        self.assertEqual(anew[0], 3)
        self.assertEqual(anew[1], ((3, 1), (4, 2), (2, 0)))
        self.assertEqual(anew[2][0], (None, 1, YES, (), ()))
        effects = ((0, ("sum", ("cell", 0), ("is", 1))),)
        self.assertEqual(anew[2][1], (0, 1, ("not", ("same", ("cell", 0), ("is", 1))), effects, (0, 2)))
        effects = ((0, ("cell", 2)), (1, ("is", 2)), (2, ("draw",)))
        self.assertEqual(anew[2][2], (1, 2, ("below", ("cell", 2), ("cell", 1)), effects, (0, 1)))
        wanted = [[0, 0, 0] for _ in range(3)]
        for (p, new_p), (c, new_c) in itertools.product(enumerate((1, 2, 0)), enumerate((2, 0, 1))):
            wanted[new_p][new_c] = ("same", ("cell", new_c), ("is", 10 * p + c))
        self.assertEqual(anew[3], tuple(tuple(row) for row in wanted))

    def test_it_is_a_game_and_is_led_back(self):
        things = Things(14)
        for _ in range(150):
            value = things.game()
            naming = things.naming(value)
            anew = renamed(value, naming)
            self.assertIsNone(game_error(anew))
            back = tuple(tuple(sorted(range(len(row)), key=lambda k, row=row: row[k])) for row in naming)
            self.assertEqual(renamed(anew, back), value)
            same = tuple(tuple(range(len(row))) for row in naming)
            self.assertEqual(renamed(value, same), value)

    def test_it_goes_on_as_the_game_did(self):
        things = Things(15)
        for _ in range(150):
            value = things.game()
            players, cells, deeds = naming = things.naming(value)
            anew = renamed(value, naming)
            state = tuple(things.random.randrange(size) for size, _ in value[1])
            new_state = tuple(state[cells.index(c)] for c in range(len(cells)))
            moment, new_moment = (state, state, 0, 1, False), (new_state, new_state, 0, 1, False)
            self.assertEqual(first_state(anew), tuple(first_state(value)[cells.index(c)] for c in range(len(cells))))
            for d, deed in enumerate(value[2]):
                new_deed = anew[2][deeds[d]]
                self.assertEqual(new_deed[0], None if deed[0] is None else players[deed[0]])
                self.assertEqual(new_deed[1], deed[1])
                self.assertEqual(holds(new_deed[2], new_moment), holds(deed[2], moment))
                self.assertEqual(set(asked(new_deed[2])), {cells[c] for c in asked(deed[2])})
                worths = {cells[c]: worth(term, moment) for c, term in deed[3]}
                self.assertEqual({c: worth(term, new_moment) for c, term in new_deed[3]}, worths)
                self.assertEqual(set(new_deed[4]), {players[p] for p in deed[4]})
            for p, c in itertools.product(range(value[0]), range(len(cells))):
                self.assertEqual(holds(anew[3][players[p]][cells[c]], new_moment), holds(value[3][p][c], moment))

    def test_namings_that_are_none(self):
        fine = ((0, 1), (0, 1), (0, 1))
        bad = [None, (), fine[:2], fine + ((0, 1),), list(fine), "naming", 3, {}, fine[0], (0, 1, 2)]
        for row in (None, (), (0,), (0, 1, 2), (0, 0), (1, 1), (1, 2), (-1, 0), (0, -1), [0, 1], (0, True), (False, 1),
                    (False, True), ("0", "1"), "01", {0: 0, 1: 1}, (0, None), (0, (1,)), (0, 10 ** 399), (None, 1)):
            bad.extend(fine[:k] + (row,) + fine[k + 1:] for k in range(3))
        for naming in bad + list(ODD_VALUES):
            with self.assertRaises(Unfit) as caught:
                renamed(CARD, naming)
            self.assertEqual(vars(caught.exception), {})

    def test_namings_go_by_the_numbers_of_the_game(self):
        value = (3, ((2, 0),), (DEED,) * 4, ((YES,),) * 3)
        self.assertEqual(renamed(value, ((0, 1, 2), (0,), (0, 1, 2, 3))), value)
        for naming in (((0, 1), (0,), (0, 1, 2, 3)), ((0, 1, 2), (0, 1), (0, 1, 2, 3)), ((0, 1, 2), (0,), (0, 1, 2))):
            self.assertRaises(Unfit, renamed, value, naming)

    def test_the_example_keeps_its_deeds(self):
        self.assertEqual(renamed(CARD, ((0, 1), (0, 1), (1, 0)))[2], (SHOW, DEAL))


if __name__ == "__main__":
    unittest.main()

"""The known wires, entry by entry, and that those that tell what is seen are just."""

import itertools
import unittest

from knownplay.errors import Unfit
from knownplay.games import game_error
from knownplay.knowngames import known_game, known_names
from knownplay.knownwires import bare_wire, changes_wire, plain_wire, silent_wire
from knownplay.terms import condition_error, term_error
from knownplay.wires import heard_by, wire_error
from tests.model import Model, place_of_wires
from tests.test_plays import some_games
from tests.things import ASKED_CARD, CARD, HIDE, OVER, YES, Things, parts_of, with_part

NO = ("not", YES)

# How so many conditions, told by their numbers, are put together by halves.
HALVES = {
    1: 0,
    2: (0, 1),
    3: ((0, 1), 2),
    4: ((0, 1), (2, 3)),
    5: (((0, 1), 2), (3, 4)),
    6: (((0, 1), 2), ((3, 4), 5)),
    7: (((0, 1), (2, 3)), ((4, 5), 6)),
    8: (((0, 1), (2, 3)), ((4, 5), (6, 7))),
}


def put_together(halves, conditions):
    """The condition that is made of conditions as halves tells."""
    if isinstance(halves, tuple):
        return ("either", put_together(halves[0], conditions), put_together(halves[1], conditions))
    return conditions[halves]


def deed_entry(game, player):
    """The deed's entry of a player."""
    seen = []
    for number, deed in enumerate(game[2]):
        if player in deed[4]:
            same = ("same", ("deed",), ("is", number))
            seen.append(same if deed[0] == player else ("both", ("done",), same))
    sees = put_together(HALVES[len(seen)], seen) if seen else NO
    return (sees, ("choose", ("done",), ("deed",), ("sum", ("deed",), ("is", len(game[2])))))


def with_was(thing):
    """The thing that asks what cells were, where thing asks what they are."""
    for way, part in parts_of(thing):
        if part[0] == "cell":
            thing = with_part(thing, way, ("was", part[1]))
    return thing


def change_entry(cell, size, sight):
    """The entry of the changes wire for one cell."""
    ahead = with_was(sight)
    new = ("both", sight, ("either", ("not", ahead), ("not", ("same", ("cell", cell), ("was", cell)))))
    gone = ("both", ("not", sight), ahead)
    return (("either", new, gone), ("choose", sight, ("cell", cell), ("is", size)))


def plain_of(game):
    """The plain wire, told anew."""
    return tuple(tuple((sight, ("cell", c)) for c, sight in enumerate(row)) + (deed_entry(game, player),)
                 for player, row in enumerate(game[3]))


def changes_of(game):
    """The changes wire, told anew, whether its entries are entries or not."""
    return tuple(tuple(change_entry(c, game[1][c][0], sight) for c, sight in enumerate(row))
                 + (deed_entry(game, player),) for player, row in enumerate(game[3]))


def games_of_all_depths(seed, many):
    """The known games, those of the examples, and so many others with sights of each depth."""
    things = Things(seed)
    return some_games(seed, 0) + [things.small_game(200, 1 + k % 4) for k in range(many)]


def is_each_entry(game, wire):
    """Whether all entries of a wire are entries."""
    place = place_of_wires(game)
    return all(condition_error(place, when) is None and term_error(place, what) is None
               for rule in wire for when, what in rule)


def with_deeds(deeds):
    """A game of two players with these deeds, each told by its doer and by who sees it."""
    return (2, ((2, 0),), tuple((doer, 1, YES, (), seen) for doer, seen in deeds), ((YES,), (NO,)))


def with_sight(sight, player=0, cell=0, cells=2):
    """A game in which one cell's sight of one player is this one."""
    sights = [[YES] * cells for _ in range(3)]
    sights[player][cell] = sight
    return (3, ((3, 0), (2, 1), (4, 2))[:cells], ((0, 1, YES, (), (0,)),), tuple(map(tuple, sights)))


class Entries(unittest.TestCase):
    def test_the_four_wires_of_many_games(self):
        changed = 0
        for game in games_of_all_depths(61, 200):
            cells = range(len(game[1]))
            self.assertEqual(silent_wire(game), ((),) * game[0])
            self.assertEqual(bare_wire(game), (tuple((YES, ("cell", c)) for c in cells),) * game[0])
            self.assertEqual(plain_wire(game), plain_of(game))
            for wire in (silent_wire(game), bare_wire(game), plain_wire(game)):
                self.assertIsNone(wire_error(game, wire))
            if is_each_entry(game, changes_of(game)):
                changed += 1
                self.assertEqual(changes_wire(game), changes_of(game))
                self.assertIsNone(wire_error(game, changes_wire(game)))
            else:
                self.assertRaises(Unfit, changes_wire, game)
        self.assertGreater(changed, 50)
        self.assertLess(changed, 150)

    def test_one_deed_to_eight_by_halves(self):
        for many in range(1, 9):
            for kinds in ("own", "other", "server", "all"):
                rows = {"own": (0, (0,)), "other": (1, (0, 1)), "server": (None, (0,))}
                deeds = [rows[kinds] if kinds != "all" else tuple(rows.values())[k % 3] for k in range(many)]
                game = with_deeds(deeds)
                self.assertIsNone(game_error(game))
                conditions = []
                for number, (doer, _) in enumerate(deeds):
                    same = ("same", ("deed",), ("is", number))
                    conditions.append(same if doer == 0 else ("both", ("done",), same))
                told = ("choose", ("done",), ("deed",), ("sum", ("deed",), ("is", many)))
                wanted = (put_together(HALVES[many], conditions), told)
                self.assertEqual(plain_wire(game)[0], ((YES, ("cell", 0)), wanted))
                self.assertEqual(changes_wire(game)[0][1], wanted)

    def test_deeds_that_are_not_seen_are_left_out(self):
        for many in range(1, 9):
            for seen in itertools.product((True, False), repeat=many):
                game = with_deeds([(None, (0,) if sees else (1,)) for sees in seen])
                numbers = [number for number, sees in enumerate(seen) if sees]
                conditions = [("both", ("done",), ("same", ("deed",), ("is", number))) for number in numbers]
                when = put_together(HALVES[len(conditions)], conditions) if conditions else NO
                self.assertEqual(plain_wire(game)[0][1][0], when)

    def test_the_deeds_entry_is_always_one(self):
        game = with_deeds([(1, (0, 1))] * 8)
        when, what = plain_wire(game)[0][1]
        self.assertEqual((len(parts_of(when)), max(len(way) for way, _ in parts_of(when))), (47, 5))
        self.assertIsNone(wire_error(game, plain_wire(game)))
        self.assertEqual(what, ("choose", ("done",), ("deed",), ("sum", ("deed",), ("is", 8))))

    def test_the_entries_of_the_curtain(self):
        curtain, was_open = ("same", ("cell", 0), ("is", 1)), ("same", ("was", 0), ("is", 1))
        same = ("same", ("cell", 1), ("was", 1))
        when = ("either", ("both", curtain, ("either", ("not", was_open), ("not", same))),
                ("both", ("not", curtain), was_open))
        self.assertEqual(changes_wire(HIDE)[0][1], (when, ("choose", curtain, ("cell", 1), ("is", 3))))
        when = ("either", ("both", YES, ("either", NO, ("not", ("same", ("cell", 0), ("was", 0))))), ("both", NO, YES))
        self.assertEqual(changes_wire(HIDE)[0][0], (when, ("choose", YES, ("cell", 0), ("is", 2))))


class Bound(unittest.TestCase):
    def test_sights_just_at_the_bound_and_beyond(self):
        cell, one = ("cell", 1), ("is", 1)
        same, total = ("same", cell, one), ("sum", cell, one)
        at_bound = (YES, ("not", YES), same, ("below", one, cell), ("both", YES, YES), ("either", YES, YES))
        beyond = (("not", ("not", YES)), ("not", same), ("same", total, one), ("same", one, total), ("both", same, YES),
                  ("below", one, ("less", cell, one)), ("below", ("choose", YES, cell, one), one),
                  ("either", YES, same), ("both", YES, ("not", YES)), ("not", ("both", YES, YES)),
                  ("not", ("not", ("not", YES))),
                  ("either", ("both", ("not", YES), ("not", YES)), ("both", same, same)))
        for player, place in itertools.product(range(3), range(2)):
            for sight in at_bound:
                game = with_sight(sight, player, place)
                self.assertIsNone(game_error(game))
                self.assertEqual(changes_wire(game), changes_of(game))
                self.assertIsNone(wire_error(game, changes_wire(game)))
            for sight in beyond:
                game = with_sight(sight, player, place)
                self.assertIsNone(game_error(game))
                with self.assertRaises(Unfit) as caught:
                    changes_wire(game)
                self.assertEqual(vars(caught.exception), {})
                self.assertIsNone(wire_error(game, plain_wire(game)))

    def test_deep_guards_and_effects_play_no_part(self):
        deep = ("not", ("not", ("not", ("not", ("not", YES)))))
        wide = ("sum",) + (("sum",) + (("sum",) + (("sum", ("cell", 0), ("is", 1)),) * 2,) * 2,) * 2
        game = (2, ((3, 0),), ((0, 1, deep, ((0, wide),), (0,)),), ((YES,), (YES,)))
        self.assertIsNone(game_error(game))
        self.assertEqual(changes_wire(game), changes_of(game))


class Just(unittest.TestCase):
    def games(self):
        """The pairs of a game and how many moves its short plays have at most."""
        games = [(known_game(name), 3) for name in known_names()]
        games += [(CARD, 3), (ASKED_CARD, 4), (HIDE, 5), (OVER, 2)]
        things = Things(62)
        games += [(things.small_game(200, 1 + k % 3), 2) for k in range(60)]
        # Sights that change, and that a changes wire can tell.
        one, other = ("cell", 0), ("cell", 1)
        sights = [("same", one, ("is", 1)), ("below", other, one), ("same", other, one)]
        for one, other in itertools.product(sights, repeat=2):
            games.append(((2, ((3, 0), (2, 1)), HIDE[2], ((one, other), (other, one))), 4))
        return games

    def test_plain_is_just_and_so_is_changes(self):
        checked = 0
        for game, most in self.games():
            wires = [plain_wire(game)]
            if is_each_entry(game, changes_of(game)):
                wires.append(changes_wire(game))
                checked += 1
            model = Model(game)
            plays = model.plays(most)[:400]
            for player in range(game[0]):
                views = [model.view(player, play) for play in plays]
                for wire in wires:
                    rows = [heard_by(game, wire, player, play) for play in plays]
                    # As many pairs as there are views and as there are rows: the same views just with the same rows.
                    pairs = len(set(zip(views, rows)))
                    self.assertEqual((len(set(views)), len(set(rows))), (pairs, pairs), (game, player))
        self.assertGreater(checked, 20)

    def test_pair_by_pair(self):
        for game in (HIDE, ASKED_CARD, known_game("cups"), known_game("lamps")):
            model = Model(game)
            plays = model.plays(3)[:60]
            for wire, player in itertools.product((plain_wire(game), changes_wire(game)), range(game[0])):
                told = [(heard_by(game, wire, player, play), model.view(player, play)) for play in plays]
                for (row, seen), (other, other_seen) in itertools.product(told, repeat=2):
                    self.assertEqual(row == other, seen == other_seen)

    def test_a_plain_letter_has_just_what_the_view_has(self):
        things = Things(63)
        for game in some_games(64, 30):
            play = Model(game).some_play(things.random, 10)
            many = len(game[2])
            for player in range(game[0]):
                wanted = []
                for what, seen in Model(game).view(player, play):
                    wanted.append(seen + (what[1] + many if isinstance(what, tuple) else what,))
                self.assertEqual(heard_by(game, plain_wire(game), player, play), tuple(wanted))

    def test_a_changes_letter_has_what_the_view_has_anew(self):
        things = Things(65)
        told = 0
        for game in games_of_all_depths(66, 60):
            if not is_each_entry(game, changes_of(game)):
                continue
            told += 1
            play = Model(game).some_play(things.random, 10)
            for player in range(game[0]):
                seen = [cells for _, cells in Model(game).view(player, play)]
                states = Model(game).through(play)
                row = heard_by(game, changes_wire(game), player, play)
                self.assertEqual(row[0], (None,) * (len(game[1]) + 1))
                for k in range(1, len(seen)):
                    for c, (size, _) in enumerate(game[1]):
                        item = states[k][c] if seen[k][c] is not None else size
                        same = seen[k][c] == seen[k - 1][c]
                        self.assertEqual(row[k][c], None if same else item)
        self.assertGreater(told, 20)


if __name__ == "__main__":
    unittest.main()

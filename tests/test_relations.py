"""What is told of one game follows from what is told of another: of two side by side, of one with an idle cell more, of
one named anew, of one with more told, and of the known games by each of their wires."""

import itertools
import unittest
from fractions import Fraction

from knownplay.audits import audit, audit_error
from knownplay.errors import TooMany
from knownplay.firmness import disturbs, firm_cells, firm_row, firm_then, tries_lot
from knownplay.games import game_error
from knownplay.joiners import join_gap, join_spill
from knownplay.justparts import spilling
from knownplay.knowngames import known_game, known_names
from knownplay.knownwires import bare_wire, changes_wire, plain_wire, silent_wire
from knownplay.leaks import lack, leak, pairs_by_rows, pairs_by_views
from knownplay.leanings import leaning
from knownplay.lies import finders
from knownplay.mixing import ordered
from knownplay.odds import foretold, hit, odds, rows_by
from knownplay.plays import moves, state_of, states
from knownplay.sets import known, sure
from knownplay.tries import alone_rows, guess_alone, guess_cells, result
from knownplay.watchers import reach
from knownplay.wires import heard, heard_by, wire_error
from tests.chances import Chances, as_odds, some_chances
from tests.test_everywhere import Named, length
from tests.test_houses import some_houses, some_owners
from tests.things import PART_KINDS, YES, Things
from tests.trying import some_trying

NO = ("not", YES)


def moved(thing, cells, deeds):
    """A term or a condition of a game that stands behind so many cells and deeds of another one."""
    if thing[0] in ("cell", "was"):
        return (thing[0], thing[1] + cells)
    if thing[:2] == ("same", ("deed",)):
        return ("same", ("deed",), ("is", thing[2][1] + deeds))
    return (thing[0],) + tuple(moved(part, cells, deeds) for part in thing[1:]) if thing[0] in PART_KINDS else thing


def beside(game, other):
    """Two games of as many players side by side."""
    many, before = len(game[1]), len(game[2])
    deeds = tuple((doer, outcomes, moved(guard, many, before),
                   tuple((c + many, moved(term, many, before)) for c, term in effects), seen)
                  for doer, outcomes, guard, effects, seen in other[2])
    sights = tuple(sees + tuple(moved(see, many, before) for see in its_sees) for sees,
                   its_sees in zip(game[3], other[3]))
    return (game[0], game[1] + other[1], game[2] + deeds, sights)


def wires_beside(game, wire, other):
    """The wire of both."""
    return tuple(rule + tuple((moved(when, len(game[1]), len(game[2])), moved(what, len(game[1]), len(game[2])))
                              for when, what in its_rule)
                 for rule, its_rule in zip(wire, other))


def cells_wire(things, game):
    """A wire that asks cells alone."""
    cells = len(game[1])
    return tuple(tuple((things.tiny_condition(cells), things.tiny_term(cells, ()))
                       for _ in range(things.random.randint(0, 2))) for _ in range(game[0]))


def some_pairs(seed, many):
    """So many pairs of games of two players side by side, with wires that tell of cells alone."""
    things = Things(seed)
    return [[(game, cells_wire(things, game)) for game in (things.tiny_game(2), things.tiny_game(2))]
            for _ in range(many)]


def with_idle_cell(game):
    """A game with a cell more that nobody sees and nothing asks."""
    return (game[0], game[1] + ((3, 2),), game[2], tuple(sees + (NO,) for sees in game[3]))


def tries_of(things, game, player):
    """Some tries of a player; () if it has no deeds."""
    own = [number for number, deed in enumerate(game[2]) if deed[0] == player]
    return tuple(things.random.choice(own) for _ in range(things.random.randint(1, 3))) if own else ()


class SideBySide(unittest.TestCase):
    def test_states_moves_and_letters(self):
        things = Things(671)
        for (game, wire), (other, its_wire) in some_pairs(672, 60):
            both, both_wire = beside(game, other), wires_beside(game, wire, its_wire)
            self.assertEqual((game_error(both), wire_error(both, both_wire)), (None, None))
            self.assertEqual(states(both), tuple(one + two for one in states(game) for two in states(other)))
            play, parts = [], ([], [])
            for _ in range(8):
                here = moves(both, state_of(both, tuple(play)))
                if not here:
                    break
                move = things.random.choice(here)
                play.append(move)
                second = move[0] >= len(game[2])
                parts[second].append((move[0] - len(game[2]) * second, move[1]))
            one, two = map(tuple, parts)
            self.assertEqual(state_of(both, tuple(play)), state_of(game, one) + state_of(other, two))
            for player in range(2):
                self.assertEqual(heard_by(both, both_wire, player, tuple(play))[-1],
                                 heard_by(game, wire, player, one)[-1] + heard_by(other, its_wire, player, two)[-1])

    def test_what_leaks_in_one_leaks_in_both(self):
        seen = set()
        for (game, wire), (other, its_wire) in some_pairs(673, 80):
            both, both_wire = beside(game, other), wires_beside(game, wire, its_wire)
            for player in range(2):
                told = [leak(game, wire, player), leak(other, its_wire, player), leak(both, both_wire, player)]
                lengths = [length(one) for one in told if one is not None]
                self.assertTrue(told[2] is not None or not lengths)
                if lengths:
                    self.assertLessEqual(length(told[2]), min(lengths))
                more = len(wire[player])
                alone = spilling(game, wire, player) + tuple(k + more for k in spilling(other, its_wire, player))
                self.assertLessEqual(set(alone), set(spilling(both, both_wire, player)))
                seen.add(told[2] is None)
        self.assertEqual(seen, {True, False})

    def test_pairs_and_leaks_where_all_see_each_deed(self):
        seen = set()
        for pair in some_pairs(680, 60):
            (game, wire), (other, its_wire) = [(self.shown(one), own) for one, own in pair]
            both, both_wire = beside(game, other), wires_beside(game, wire, its_wire)
            for player in range(2):
                pairs = [(s + u, t + v) for s, t in pairs_by_views(game, player) for u,
                         v in pairs_by_views(other, player)]
                self.assertEqual(pairs_by_views(both, player), tuple(sorted(pairs)))
                told = [leak(game, wire, player), leak(other, its_wire, player), leak(both, both_wire, player)]
                self.assertEqual(told[2] is None, told[0] is None and told[1] is None)
                if told[2] is not None:
                    self.assertEqual(length(told[2]), min(length(one) for one in told[:2] if one is not None))
                seen.add(told[2] is None)
        self.assertEqual(seen, {True, False})

    def shown(self, game):
        """A game in which all see that a deed is done."""
        return game[:2] + (tuple(deed[:4] + (tuple(range(game[0])),) for deed in game[2]),) + game[3:]

    def test_tries(self):
        things, shown = Things(674), 0
        for (game, _), (other, _) in some_pairs(675, 120):
            both = beside(game, other)
            for player in range(2):
                tries = tries_of(things, game, player)
                if not tries:
                    continue
                some = tuple(sorted(things.random.sample(states(game), min(2, len(states(game))))))
                together = tuple(one + state_of(other, ()) for one in some)
                row = firm_row(game, player, some, tries)
                self.assertEqual(firm_row(both, player, together, tries), row)
                self.assertEqual(guess_alone(both, player, together, tries), guess_alone(game, player, some, tries))
                for call in (firm_then, firm_cells, guess_cells):
                    self.assertEqual(call(both, player, together, tries)[:len(game[1])],
                                     call(game, player, some, tries))
                self.assertEqual(disturbs(both, player, together, tries) is None,
                                 disturbs(game, player, some, tries) is None)
                lot = tries_lot(both, player, together, tries)
                self.assertEqual({(many, state[:len(game[1])]) for many, state in lot},
                                 set(tries_lot(game, player, some, tries)))
                shown += sum(item is not None for item in row)
        self.assertGreater(shown, 40)

    def test_odds(self):
        things, many = Things(676), 0
        for (game, wire), (other, its_wire) in some_pairs(677, 80):
            both, both_wire = beside(game, other), wires_beside(game, wire, its_wire)
            one = tuple(things.random.randrange(len(game[2])) for _ in range(2))
            two = tuple(things.random.randrange(len(other[2])) for _ in range(2))
            deeds = tuple(deed + len(game[2]) for deed in two[:1]) + one + tuple(deed + len(game[2])
                                                                                 for deed in two[1:])
            rows, its_rows = rows_by(game, wire, (0,), one), rows_by(other, its_wire, (0,), two)
            told = rows_by(both, both_wire, (0,), deeds)
            self.assertEqual(len(told), len(rows) * len(its_rows))
            if not told:
                continue
            for cell in range(len(game[1])):
                self.assertEqual(hit(both, both_wire, (0,), deeds, cell), hit(game, wire, (0,), one, cell))
                self.assertEqual(foretold(both, both_wire, (0,), deeds, (), cell),
                                 foretold(game, wire, (0,), one, (), cell))
            products = sorted(as_odds(Fraction(*x) * Fraction(*y)) for _, x in rows for _, y in its_rows)
            self.assertEqual(sorted(x for _, x in told), products)
            for row, _ in told[:4]:
                parts = {}
                for state, chance in odds(both, both_wire, (0,), deeds, row):
                    key = state[:len(game[1])]
                    parts[key] = parts.get(key, 0) + Fraction(*chance)
                first = [row[0][0][:len(wire[0])]] + [row[k][0][:len(wire[0])] for k in (2, 3)]
                wanted = odds(game, wire, (0,), one, tuple((letter,) for letter in first))
                self.assertEqual(tuple((key, as_odds(parts[key])) for key in sorted(parts)), wanted)
                many += 1
        self.assertGreater(many, 60)

    def test_owners(self):
        things, kinds = Things(678), set()
        for (game, _), (other, _) in some_pairs(679, 80):
            owners = (some_owners(things, game), some_owners(things, other))
            told = ordered(beside(game, other), owners[0] + owners[1])
            self.assertEqual(told, ordered(game, owners[0]) and ordered(other, owners[1]))
            kinds.add(told)
        self.assertEqual(kinds, {True, False})


class IdleCells(unittest.TestCase):
    def test_of_all_parts(self):
        things = Things(681)
        for chances, ears, deeds in some_chances(682, 60):
            game, wire = chances.game, chances.wire
            more = with_idle_cell(game)
            wider = lambda some: tuple(state + (2,) for state in some)
            self.assertEqual(states(more), wider(states(game)))
            for player in range(game[0]):
                self.assertEqual(pairs_by_rows(more, wire, player),
                                 tuple(tuple(wider(pair)) for pair in pairs_by_rows(game, wire, player)))
                for call in (leak, lack):
                    self.assertEqual(call(more, wire, player), call(game, wire, player))
                self.assertEqual(reach(more, wire, player), reach(game, wire, player))
                rule = ((YES, things.tiny_term(len(game[1]), ())),)
                for call, limit in ((lambda own: join_gap(own, wire, player, rule), 3000),
                                    (lambda own: join_spill(own, wire, player, rule), 3000),
                                    (lambda own: leaning(own, wire, player), 100)):
                    try:
                        self.assertEqual(call(more), call(game))
                    except TooMany as error:
                        self.assertEqual(error.limit, limit)
                tries = tries_of(things, game, player)
                if tries:
                    some = states(game)[:2]
                    self.assertEqual(firm_row(more, player, wider(some), tries), firm_row(game, player, some, tries))
                    self.assertEqual(firm_cells(more, player, wider(some), tries),
                                     firm_cells(game, player, some, tries) + ("hidden",))
                    self.assertEqual(alone_rows(more, wider(some)[0], tries), alone_rows(game, some[0], tries))
            self.assertEqual(rows_by(more, wire, ears, deeds), rows_by(game, wire, ears, deeds))
            for row, _ in rows_by(game, wire, ears, deeds)[:5]:
                self.assertEqual(odds(more, wire, ears, deeds, row),
                                 tuple((state + (2,), one) for state, one in odds(game, wire, ears, deeds, row)))
                self.assertEqual(sure(more, known(more, wire, ears, row)),
                                 sure(game, known(game, wire, ears, row)) + (2,))
                self.assertEqual(foretold(more, wire, ears, deeds, row, len(game[1])), ((0, 1), (0, 1), (1, 1)))
                self.assertEqual(hit(more, wire, ears, deeds, 0), hit(game, wire, ears, deeds, 0))


class NamedAnew(unittest.TestCase):
    def test_tries(self):
        things = Things(683)
        for trying in some_trying(684, 120):
            named = Named(trying.game, ((),) * trying.game[0], things.naming(trying.game))
            player, tries = named.players[trying.player], tuple(named.deeds[deed] for deed in trying.tries)
            some = tuple(sorted(map(named.state, trying.known)))
            new = (named.new_game, player, some, tries)
            told = lambda shown: tuple(self.named(named, item) for item in shown)
            self.assertEqual(tries_lot(*new), tuple(sorted((many, named.state(state)) for many,
                                                           state in tries_lot(*trying.arguments))))
            self.assertEqual(firm_row(*new), told(firm_row(*trying.arguments)))
            self.assertEqual(guess_alone(*new), told(guess_alone(*trying.arguments)))
            for call in (firm_then, firm_cells, guess_cells):
                self.assertEqual(call(*new), tuple(item for _,
                                                   item in sorted(zip(named.cells, call(*trying.arguments)),
                                                                  key=lambda one: one[0])))
            found = [disturbs(*trying.arguments), disturbs(*new)]
            self.assertEqual(*[None if one is None else len(one[1]) for one in found])
            state = trying.known[0]
            self.assertEqual(alone_rows(named.new_game, named.state(state), tries),
                             tuple(sorted(told(row) for row in alone_rows(trying.game, state, trying.tries))))
            for move in moves(trying.game, state):
                self.assertEqual(result(named.new_game, named.state(state), (named.deeds[move[0]], move[1])),
                                 self.named(named, result(trying.game, state, move)))

    def named(self, named, item):
        """A result by the new names."""
        if item is None or item[0] == "refused":
            return item
        return ("set", tuple(sorted((named.cells[cell], value) for cell, value in item[1])))

    def test_odds_and_leanings(self):
        things = Things(685)
        for chances, ears, deeds in some_chances(686, 80):
            named = Named(chances.game, chances.wire, things.naming(chances.game))
            new = (named.new_game, named.new_wire, tuple(sorted(named.players[ear] for ear in ears)),
                   tuple(named.deeds[deed] for deed in deeds))
            old = (chances.game, chances.wire, ears, deeds)
            order = sorted(range(len(ears)), key=lambda k: named.players[ears[k]])
            for row, chance in rows_by(*old):
                its_row = tuple(tuple(letters[k] for k in order) for letters in row)
                self.assertIn((its_row, chance), rows_by(*new))
                self.assertEqual(odds(*new, its_row), tuple(sorted((named.state(state), one) for state,
                                                                   one in odds(*old, row))))
                for cell in range(len(chances.game[1])):
                    self.assertEqual(foretold(*new, its_row[:2], named.cells[cell]), foretold(*old, row[:2], cell))
            if rows_by(*old):
                self.assertEqual([hit(*new, named.cells[cell]) for cell in range(2)],
                                 [hit(*old, cell) for cell in range(2)])
            for player in range(chances.game[0]):
                try:
                    told = [leaning(chances.game, chances.wire, player), leaning(*new[:2], named.players[player])]
                except TooMany:
                    continue
                self.assertEqual(*[None if one is None else len(one) for one in told])

    def test_audits(self):
        things = Things(687)
        for house in some_houses(688, 40):
            game, wire, rule, lag, owners, spare = house
            named = Named(game, wire, things.naming(game))
            its_spare = Named(game, spare, (named.players, named.cells, named.deeds)).new_wire
            new = (named.new_game, named.new_wire, tuple((named.thing(when), named.thing(what)) for when, what in rule),
                   lag, named.state(owners), its_spare)
            words = [[word for word, _ in audit(one)] for one in (house, new)]
            if "open" not in words[0]:
                self.assertEqual(*words)
                self.assertIsNone(audit_error(new, audit(new)))


class MoreTold(unittest.TestCase):
    def test_with_some_entries_more(self):
        things, kinds = Things(689), set()
        for chances, ears, deeds in some_chances(690, 80):
            game, wire = chances.game, chances.wire
            more = tuple(rule + own for rule, own in zip(wire, things.tiny_wire(game)))
            for play, _, state in chances.plays_by(deeds)[:6]:
                rows = [heard(game, one, ears, play) for one in (wire, more)]
                self.assertEqual(tuple(tuple(letter[:len(wire[ear])] for ear, letter in zip(ears, letters))
                                       for letters in rows[1]), rows[0])
                some = [known(game, one, ears, row) for one, row in zip((wire, more), rows)]
                self.assertLessEqual(set(some[1]), set(some[0]))
                self.assertIn(state, some[1])
                its_odds = [dict(odds(game, one, ears, deeds, row)) for one, row in zip((wire, more), rows)]
                self.assertLessEqual(set(its_odds[1]), set(its_odds[0]))
            self.assertGreaterEqual(len(rows_by(game, more, ears, deeds)), len(rows_by(game, wire, ears, deeds)))
            for player in range(game[0]):
                leaks = [leak(game, one, player) for one in (wire, more)]
                self.assertTrue(leaks[0] is None or leaks[1] is not None)
                kinds.add((leaks[0] is None, leaks[1] is None))
                lacks = [lack(game, one, player) for one in (wire, more)]
                self.assertTrue(lacks[1] is None or lacks[0] is not None)
                self.assertLessEqual(set(pairs_by_rows(game, more, player)), set(pairs_by_rows(game, wire, player)))
                self.assertEqual(spilling(game, more, player)[:len(spilling(game, wire, player))],
                                 spilling(game, wire, player))
        self.assertEqual(len(kinds), 3)

    def test_an_entry_that_is_told_twice_tells_nothing_more(self):
        for chances, ears, deeds in some_chances(691, 60):
            game, wire = chances.game, chances.wire
            twice = tuple(rule + rule for rule in wire)
            for cell in range(len(game[1])):
                if rows_by(game, wire, ears, deeds):
                    self.assertEqual(hit(game, twice, ears, deeds, cell), hit(game, wire, ears, deeds, cell))
            self.assertEqual([one for _, one in rows_by(game, twice, ears, deeds)],
                             [one for _, one in rows_by(game, wire, ears, deeds)])
            for player in range(game[0]):
                self.assertEqual((leak(game, twice, player), lack(game, twice, player), reach(game, twice, player)),
                                 (leak(game, wire, player), lack(game, wire, player), reach(game, wire, player)))


class KnownGames(unittest.TestCase):
    def wires(self, name):
        """The wires of a known game."""
        game = known_game(name)
        return game, [plain_wire(game), bare_wire(game), silent_wire(game)] + ([changes_wire(game)]
                                                                               if name not in ("coin", "door") else [])

    def test_odds(self):
        things = Things(692)
        for name in known_names():
            game, wires = self.wires(name)
            for wire in wires:
                chances = Chances(game, wire)
                deeds = tuple(things.random.randrange(len(game[2])) for _ in range(4))
                for player in range(game[0]):
                    told = chances.heard_by_deeds((player,), deeds)
                    whole = sum(sum(weights.values()) for weights in told.values())
                    self.assertEqual(rows_by(game, wire, (player,), deeds),
                                     tuple((row, as_odds(sum(weights.values()) / whole)) for row,
                                           weights in told.items()))
                    for row, weights in list(told.items())[:5]:
                        self.assertEqual(odds(game, wire, (player,), deeds, row),
                                         tuple((state, as_odds(weights[state] / sum(weights.values())))
                                               for state in sorted(weights)))

    def test_by_plain_and_by_changes_the_same_is_known(self):
        things = Things(693)
        for name in known_names():
            game, wires = self.wires(name)
            plain = wires[0]
            for player, _ in itertools.product(range(game[0]), range(4)):
                deeds = tuple(things.random.randrange(len(game[2])) for _ in range(5))
                play = things.random.choice([play for play, _, _ in Chances(game, plain).plays_by(deeds)] or [()])
                some = [known(game, wire, (player,), heard(game, wire, (player,), play)) for wire in wires]
                self.assertEqual(some[1], (state_of(game, play),))
                self.assertTrue(all(set(one) <= set(some[2]) for one in some))
                self.assertEqual(some[0], some[-1] if len(wires) == 4 else some[0])
                if play:
                    rows = [odds(game, wire, (player,), tuple(deed for deed, _ in play),
                                 heard(game, wire, (player,), play)) for wire in wires]
                    self.assertEqual(rows[0], rows[-1] if len(wires) == 4 else rows[0])
                told = tuple(heard_by(game, plain, one, play) for one in range(game[0]))
                self.assertEqual(finders(game, plain, told), ())
                self.assertEqual(finders(game, plain, told[:1] + (None,) * (game[0] - 1)), ())

    def test_which_wires_leak_and_lean(self):
        for name in known_names():
            game, wires = self.wires(name)
            for player in range(game[0]):
                self.assertEqual([leak(game, wire, player) for wire in wires[::3]], [None] * len(wires[::3]))
                self.assertIsNone(leak(game, wires[2], player))
                self.assertEqual(reach(game, wires[1], player), 0)


if __name__ == "__main__":
    unittest.main()

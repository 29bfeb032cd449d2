"""Terms tell the same wherever they stand, and a game named anew has, named so, the same of all."""

import itertools
import unittest

from knownplay.games import game_error, renamed
from knownplay.joiners import join_gap, join_letter, join_spill, joined, rule_error
from knownplay.knowngames import known_game, known_names
from knownplay.knownwires import bare_wire, silent_wire
from knownplay.leaks import lack, leak, leak_error, pairs_by_rows, pairs_by_views
from knownplay.likeness import as_good
from knownplay.plays import is_done, moves, play_error, state_of, states, stepped
from knownplay.settables import set_table
from knownplay.terms import holds, worth
from knownplay.views import sight, view
from knownplay.watchers import reach
from knownplay.wires import first_letter, letter, wire_error
from tests.knowing import some_knowing
from tests.model import told
from tests.things import PART_KINDS, YES, Things


class Places(unittest.TestCase):
    def game(self, things, guard=YES, effects=(), sights=None):
        """A game of three cells, in which the player 0 has one deed of four outcomes with this guard, and a deed to wait."""
        cells = ((3, 1), (4, 0), (5, 2))
        sights = sights or ((YES,) * 3,) * 2
        game = (2, cells, ((0, 4, guard, effects, (0,)), (1, 1, YES, (), (0, 1))), sights)
        self.assertIsNone(game_error(game))
        return game

    def states(self, things, many=12):
        """Some states of that game."""
        every = list(itertools.product(range(3), range(4), range(5)))
        return things.random.sample(every, many)

    def test_conditions(self):
        things = Things(411)
        kinds = []
        for _ in range(150):
            condition = things.condition((3, ()), 3)
            as_guard = self.game(things, guard=condition)
            as_sight = self.game(things, sights=((condition, YES, YES), (YES, YES, ("not", condition))))
            waiting = self.game(things)
            wire = (((condition, ("is", 1)),), ((YES, ("choose", condition, ("is", 1), ("is", 0))),))
            for state in self.states(things):
                wanted = bool(told(condition)(state, state, 0, 0, False))
                kinds.append(wanted)
                self.assertIs(holds(condition, (state, state, 0, 0, False)), wanted)
                self.assertEqual(len(moves(as_guard, state)), 5 if wanted else 2)
                self.assertIs(is_done(as_guard, state, (0, 0)), wanted)
                self.assertEqual(sight(as_sight, 0, state), (state[0] if wanted else None,) + state[1:])
                self.assertEqual(sight(as_sight, 1, state), state[:2] + (None if wanted else state[2],))
                self.assertEqual(letter(waiting, wire, 0, state, (1, 0)), (1 if wanted else None,))
                self.assertEqual(letter(waiting, wire, 1, state, (1, 0)), (int(wanted),))
                self.assertEqual(join_letter(waiting, wire[0], state), (1 if wanted else None,))
                self.assertEqual(join_letter(waiting, wire[1], state), (int(wanted),))
        self.assertGreater(min(kinds.count(True), kinds.count(False)), 100)

    def test_terms(self):
        things = Things(412)
        for _ in range(150):
            term, plain = things.term((3, ("draw",)), 3), things.term((3, ()), 3)
            game = self.game(things, effects=((0, term), (2, plain)))
            wire = (((YES, ("choose", ("done",), ("is", 1), plain)), (YES, plain)), ((YES, term),))
            for state, drawn in itertools.product(self.states(things, 6), range(4)):
                worths = [told(one)(state, state, 0, drawn, False) for one in (term, plain)]
                self.assertEqual([worth(one, (state, state, 0, drawn, False)) for one in (term, plain)], worths)
                behind = stepped(game, state, (0, drawn))
                self.assertEqual(behind, (worths[0] % 3, state[1], worths[1] % 5))
                self.assertEqual(join_letter(game, ((YES, plain),), state), (worths[1],))
                # By a wire cells are asked behind the move.
                later = [told(one)(behind, state, 0, drawn, True) for one in (term, plain)]
                self.assertEqual(letter(game, wire, 0, state, (0, drawn)), (1, later[1]))
                self.assertEqual(letter(game, wire, 1, state, (0, drawn)), (later[0],))
                if drawn == 0:
                    self.assertEqual(letter(game, wire, 0, state, (1, 0)), (1, worths[1]))

    def test_what_was_and_the_deed(self):
        things = Things(413)
        words = ("deed", "done", "draw", "was")
        for _ in range(150):
            condition, term = things.condition((3, words), 3), things.term((3, words), 3)
            game = self.game(things, effects=((0, ("draw",)), (1, ("sum", ("cell", 0), ("is", 1)))))
            wire = (((condition, term),), ())
            self.assertIsNone(wire_error(game, wire))
            self.assertEqual(first_letter(game, wire, 0), self.letter(condition, term, ((1, 0, 2), (1, 0, 2), 2, 0, True)))
            for state, drawn in itertools.product(self.states(things, 5), range(4)):
                moment = (stepped(game, state, (0, drawn)), state, 0, drawn, True)
                self.assertEqual(letter(game, wire, 0, state, (0, drawn)), self.letter(condition, term, moment))

    def letter(self, condition, term, moment):
        """The letter of one entry at a moment, told twice."""
        once = (worth(term, moment) if holds(condition, moment) else None,)
        self.assertEqual(once, (told(term)(*moment) if told(condition)(*moment) else None,))
        return once

    def test_a_term_at_a_lesser_place_is_worth_the_same_at_a_greater_one(self):
        things = Things(414)
        for _ in range(100):
            rule = ((things.condition((2, ()), 3), things.term((2, ()), 3)),)
            small = (2, ((3, 1), (4, 0)), ((0, 1, YES, (), (0,)),), ((YES,) * 2,) * 2)
            great = (2, ((3, 1), (4, 0), (2, 1)), small[2], ((YES,) * 3,) * 2)
            self.assertEqual((rule_error(small, rule), rule_error(great, rule)), (None, None))
            for state in itertools.product(range(3), range(4)):
                for more in range(2):
                    self.assertEqual(join_letter(small, rule, state), join_letter(great, rule, state + (more,)))


class Named:
    """A game, its wire and a naming, and all of these by the new names."""

    def __init__(self, game, wire, naming):
        self.players, self.cells, self.deeds = naming
        self.game, self.wire = game, wire
        self.new_game = renamed(game, naming)
        rules = [None] * game[0]
        for player, rule in enumerate(wire):
            rules[self.players[player]] = tuple((self.thing(when), self.thing(what)) for when, what in rule)
        self.new_wire = tuple(rules)

    def thing(self, thing):
        """A term or a condition by the new numbers of cells, and of a deed that is asked for alone."""
        if thing[0] in ("cell", "was"):
            return (thing[0], self.cells[thing[1]])
        if thing[:2] == ("same", ("deed",)):
            return ("same", ("deed",), ("is", (self.deeds + (len(self.deeds),) * 9)[thing[2][1]]))
        if thing[0] in PART_KINDS:
            return (thing[0],) + tuple(self.thing(part) for part in thing[1:])
        return thing

    def state(self, state):
        """A state by the new names."""
        return tuple(value for _, value in sorted(zip(self.cells, state)))

    def play(self, play):
        """A play by the new names."""
        return tuple((self.deeds[deed], drawn) for deed, drawn in play)

    def view(self, seen):
        """A view by the new names."""
        found = []
        for what, cells in seen:
            if isinstance(what, tuple):
                what = ("no", self.deeds[what[1]])
            elif what is not None:
                what = self.deeds[what]
            found.append((what, self.state(cells)))
        return tuple(found)


def some_named(seed, many):
    """So many games named anew, with wires of them."""
    things = Things(seed)
    found = []
    for knowing in some_knowing(seed, many):
        found.append(Named(knowing.game, knowing.wire, things.naming(knowing.game)))
    for name in known_names():
        game = known_game(name)
        found.append(Named(game, things.random.choice((bare_wire(game), silent_wire(game))),
                           things.naming(game)))
    return found


def length(plays):
    """How long a pair of plays is; None for None."""
    return None if plays is None else len(plays[0])


class Naming(unittest.TestCase):
    def test_states_moves_plays_and_views(self):
        things = Things(421)
        for named in some_named(422, 80):
            game, new = named.game, named.new_game
            self.assertIsNone(game_error(new))
            self.assertIsNone(wire_error(new, named.new_wire))
            come = states(game)
            self.assertEqual(states(new), tuple(sorted(named.state(state) for state in come)))
            play = []
            for _ in range(12):
                here = state_of(game, tuple(play))
                there = moves(game, here)
                self.assertEqual(moves(new, named.state(here)), tuple(sorted(named.play(there))))
                if not there:
                    break
                play.append(things.random.choice(there))
                self.assertEqual(stepped(new, named.state(here), named.play(play[-1:])[0]),
                                 named.state(stepped(game, here, play[-1])))
            play = tuple(play)
            self.assertIsNone(play_error(new, named.play(play)))
            self.assertEqual(state_of(new, named.play(play)), named.state(state_of(game, play)))
            for player in range(game[0]):
                self.assertEqual(view(new, named.players[player], named.play(play)), named.view(view(game, player, play)))

    def test_leaks_lacks_and_reach(self):
        kinds = set()
        for named in some_named(423, 80):
            for player in range(named.game[0]):
                old = (named.game, named.wire, player)
                new = (named.new_game, named.new_wire, named.players[player])
                for call in (pairs_by_views, pairs_by_rows):
                    less = (lambda arguments: arguments) if call is pairs_by_rows else (lambda one: (one[0], one[2]))
                    pairs = [tuple(map(named.state, pair)) for pair in call(*less(old))]
                    self.assertEqual(call(*less(new)), tuple(sorted(pairs)))
                for call in (leak, lack):
                    self.assertEqual(length(call(*new)), length(call(*old)))
                    kinds.add((call.__name__, call(*old) is None))
                plays = leak(*old)
                if plays is not None:
                    self.assertIsNone(leak_error(*new, tuple(map(named.play, plays))))
                self.assertEqual(reach(*new), reach(*old))
                kinds.add(("reach", reach(*old)))
                self.assertEqual(len(set_table(new[0], new[1], new[2:])), len(set_table(old[0], old[1], old[2:])))
                self.assertEqual(as_good(new[0], new[1], bare_wire(new[0]), new[2]) is None,
                                 as_good(old[0], old[1], bare_wire(old[0]), old[2]) is None)
        for kind in (("leak", True), ("leak", False), ("lack", True), ("lack", False), ("reach", None), ("reach", 1)):
            self.assertIn(kind, kinds)

    def test_joiners(self):
        things = Things(424)
        for named in some_named(425, 40):
            cells = len(named.game[1])
            rule = tuple((things.tiny_condition(cells), things.tiny_term(cells, ())) for _ in range(2))
            new_rule = tuple((named.thing(when), named.thing(what)) for when, what in rule)
            for state in states(named.game):
                told_there = join_letter(named.game, rule, state)
                self.assertEqual(join_letter(named.new_game, new_rule, named.state(state)), told_there)
                self.assertEqual(joined(named.new_game, new_rule, told_there),
                                 tuple(sorted(map(named.state, joined(named.game, rule, told_there)))))
            for call in (join_gap, join_spill):
                tales = [call(named.new_game, named.new_wire, named.players[0], new_rule),
                         call(named.game, named.wire, 0, rule)]
                lengths = [None if tale is None else len(tale[0]) + len(tale[1]) for tale in tales]
                self.assertEqual(lengths[0], lengths[1])


if __name__ == "__main__":
    unittest.main()

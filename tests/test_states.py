"""Which states come, and by which shortest plays."""

import unittest

from knownplay.errors import TooMany, Unfit
from knownplay.games import game_error
from knownplay.knowngames import known_game, known_names
from knownplay.plays import moves, nearest, play_error, state_of, states, stepped
from tests.model import Model
from tests.things import ASKED_CARD, CARD, HIDE, ODD_VALUES, OVER, YES, Things

LIMIT = 3000
SIZES = (5, 5, 5, 6, 4, 2)


def counting(last):
    """A game of 3000 states, of five cells that count, and one of one state more behind the state last, if it comes."""
    counts = ("same", ("cell", 5), ("is", 0))
    same = [("same", ("cell", c), ("is", last[c])) for c in range(5)]
    at_last = ("both", ("both", ("both", same[0], same[1]), ("both", same[2], same[3])), ("both", same[4], counts))
    deeds = tuple((0, 1, counts, ((c, ("sum", ("cell", c), ("is", 1))),), (0,)) for c in range(5))
    end = (0, 1, at_last, ((5, ("is", 1)),), (0,))
    return (2, tuple((size, 0) for size in SIZES), deeds + (end,), ((YES,) * 6,) * 2)


class States(unittest.TestCase):
    def games(self, seed, many):
        """Games, those with few states and those with more of them."""
        things = Things(seed)
        games = [known_game(name) for name in known_names()] + [CARD, ASKED_CARD, HIDE, OVER]
        return games + [things.small_game(400) for _ in range(many)]

    def test_the_states_that_come_are_those_that_are_stepped_to(self):
        for game in self.games(1, 80):
            self.assertEqual(states(game), tuple(sorted(Model(game).far())), game)

    def test_they_are_the_least_lot_that_moves_do_not_leave(self):
        for game in self.games(2, 40):
            lot = states(game)
            self.assertIn(Model(game).first, lot)
            led = {stepped(game, state, move) for state in lot for move in moves(game, state)}
            self.assertLessEqual(led, set(lot))

    def test_nearest_is_a_shortest_play(self):
        for game in self.games(3, 30):
            model = Model(game)
            far = model.far()
            for state, many in far.items():
                play = nearest(game, state)
                self.assertIsNone(play_error(game, play))
                self.assertEqual((len(play), state_of(game, play)), (many, state))
                self.assertLess(len(play), len(far))
                self.assertIs(type(play), tuple)
            for state in model.all_states():
                if state not in far:
                    self.assertRaises(Unfit, nearest, game, state)

    def test_some_states_never_come(self):
        lacking = sum(len(Model(game).all_states()) - len(states(game)) for game in self.games(3, 30))
        self.assertGreater(lacking, 1000)

    def test_values_that_are_no_state_are_unfit(self):
        first = [(0, False), (False, 0), [0, 0], (0,), (0, 0, 0), (0, None), ("0", "0"), ((0, 0),), (0, (0,)), (0, [0]),
                 (0, {}), (3, 0), (0, 2), (-1, 0), (0, -1), (10 ** 399, 0), {0: 0}, "0,0", (2, True), 0, ()]
        for value in first + list(ODD_VALUES):
            with self.assertRaises(Unfit, msg=value) as caught:
                nearest(CARD, value)
            self.assertEqual(vars(caught.exception), {})
        self.assertEqual(nearest(CARD, (0, 0)), ())


class Many(unittest.TestCase):
    def test_exactly_as_many_states_as_are_let(self):
        game = counting((0, 0, 0, 0, 9))
        self.assertIsNone(game_error(game))
        self.assertEqual(len(states(game)), LIMIT)
        self.assertEqual(states(game)[:3], ((0, 0, 0, 0, 0, 0), (0, 0, 0, 0, 1, 0), (0, 0, 0, 0, 2, 0)))
        self.assertEqual(states(game)[-1], (4, 4, 4, 5, 3, 0))
        for state in states(game)[::300] + states(game)[-1:]:
            play = nearest(game, state)
            self.assertEqual((len(play), state_of(game, play)), (sum(state), state))
        for value in ((0, 0, 0, 0, 0, 1), (0, 0, 0, 0, 4, 0), (0, 0, 0, 0, 0, False), None, [0] * 6):
            self.assertRaises(Unfit, nearest, game, value)

    def test_one_more_is_too_many(self):
        for last in ((0, 0, 0, 0, 0), (0, 0, 0, 0, 1), (4, 4, 4, 5, 3), (2, 0, 4, 1, 1)):
            game = counting(last)
            with self.assertRaises(TooMany) as caught:
                states(game)
            self.assertEqual(vars(caught.exception), {"limit": LIMIT})
            for value in ((0, 0, 0, 0, 0, 0), last + (1,), (0, 0, 0, 0, 1, 0), (0, 0, 0, 0, 0, 9), None, ["0"], "x"):
                with self.assertRaises(TooMany) as caught:
                    nearest(game, value)
                self.assertEqual(vars(caught.exception), {"limit": LIMIT})

    def test_very_many_are_too_many(self):
        deeds = tuple((None, 4, YES, ((c, ("sum", ("cell", c), ("draw",))),), ()) for c in range(6))
        game = (2, ((6, 0),) * 6, deeds, ((YES,) * 6,) * 2)
        self.assertRaises(TooMany, states, game)
        self.assertRaises(TooMany, nearest, game, (0,) * 6)
        self.assertEqual(state_of(game, ((0, 3), (0, 3), (5, 1))), (0, 0, 0, 0, 0, 1))

    def test_a_game_of_many_states_of_which_few_come(self):
        game = (2, ((6, 5),) * 6, ((None, 1, YES, ((0, ("less", ("cell", 0), ("is", 1))),), ()),), ((YES,) * 6,) * 2)
        self.assertEqual(states(game), tuple((k, 5, 5, 5, 5, 5) for k in range(6)))
        self.assertEqual(nearest(game, (0, 5, 5, 5, 5, 5)), ((0, 0),) * 5)


if __name__ == "__main__":
    unittest.main()

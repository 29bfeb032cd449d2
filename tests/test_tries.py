"""Results of tries, and what can be guessed of them if nobody else moves, against all rows of results."""

import itertools
import unittest

from knownplay.errors import TooMany
from knownplay.tries import alone_rows, guess_alone, guess_cells, result
from tests.knowing import too_many
from tests.model import Model
from tests.things import YES, Things
from tests.trying import REFUSED, Trying, some_trying

# The games of the document's examples: a lamp, a sheet and a lock; throws.
FREE = ("same", ("cell", 2), ("is", 0))
COPY, LOCK, LIGHT = ((0, 1, YES, ((1, ("cell", 0)),), (0,)), (0, 1, YES, ((2, ("is", 1)),), (0,)),
                     (0, 1, YES, ((0, ("is", 1)),), (0,)))
LAMP_TURN = (1, 1, FREE, ((0, ("less", ("is", 1), ("cell", 0))),), (1,))
LAMP = (2, ((2, 0), (2, 0), (2, 0)), (COPY, LAMP_TURN, LOCK, LIGHT), ((YES, YES, YES), (YES, YES, YES)))
THROWS = (2, ((6, 0),), ((0, 2, YES, ((0, ("draw",)),), (0,)),
                         (1, 1, ("below", ("cell", 0), ("is", 2)), ((0, ("is", 5)),), (1,))), ((YES,), (YES,)))


def wide(more=()):
    """A game of six cells of six values in which the player 0 can set all cells to 0 (0), or do nothing (1)."""
    zeros = tuple((cell, ("is", 0)) for cell in range(6))
    return (2, ((6, 0),) * 6, ((0, 1, YES, zeros, (0,)), (0, 1, YES, (), (0,))) + more, ((YES,) * 6,) * 2)


def wide_states(many):
    """So many states of that game, ascending."""
    return tuple(itertools.islice(itertools.product(range(6), repeat=6), many))


class Results(unittest.TestCase):
    def test_moves_done_and_refused(self):
        things = Things(501)
        kinds = []
        for _ in range(120):
            game = things.tiny_game()
            model = Model(game)
            trying = Trying(game, 0, (), ())
            for state in model.all_states():
                for move, (done, behind) in model.moves(state).items():
                    told = result(game, state, move)
                    self.assertEqual(told, trying.result(state, move))
                    kinds.append(done)
                    if done:
                        self.assertEqual([cell for cell, _ in told[1]], [cell for cell, _ in game[2][move[0]][3]])
                        self.assertEqual({**dict(enumerate(state)), **dict(told[1])}, dict(enumerate(behind)))
        self.assertGreater(min(kinds.count(True), kinds.count(False)), 200)

    def test_deeds_without_effects_and_cells_set_to_what_they_were(self):
        self.assertEqual(result(wide(), (0,) * 6, (1, 0)), ("set", ()))
        self.assertEqual(result(wide(), (0,) * 6, (0, 0)), ("set", tuple((cell, 0) for cell in range(6))))
        self.assertEqual(result(LAMP, (0, 0, 1), (2, 0)), ("set", ((2, 1),)))
        self.assertEqual(result(LAMP, (0, 0, 1), (1, 0)), REFUSED)
        self.assertEqual(result(THROWS, (5,), (0, 1)), ("set", ((0, 1),)))

    def test_a_move_of_the_server_has_a_result_too(self):
        game = (2, ((4, 0),), ((None, 4, YES, ((0, ("sum", ("draw",), ("is", 3))),), ()),), ((YES,), (YES,)))
        self.assertEqual([result(game, (2,), (0, drawn)) for drawn in range(4)],
                         [("set", ((0, (drawn + 3) % 4),)) for drawn in range(4)])


class Alone(unittest.TestCase):
    def test_rows_of_all_tries(self):
        longest = 0
        for trying in some_trying(502, 150):
            for state in trying.known:
                for many in range(len(trying.tries) + 1):
                    rows = alone_rows(trying.game, state, trying.tries[:many])
                    self.assertEqual(rows, tuple(sorted(trying.rows_alone(state, trying.tries[:many]))))
                    longest = max(longest, len(rows))
        self.assertGreaterEqual(longest, 8)

    def test_rows_of_no_tries(self):
        self.assertEqual(alone_rows(LAMP, (1, 1, 1), ()), ((),))

    def test_as_many_rows_as_there_can_be(self):
        game = (2, ((4, 0),), ((0, 4, YES, ((0, ("draw",)),), (0,)),), ((YES,), (YES,)))
        rows = alone_rows(game, (3,), (0,) * 4)
        self.assertEqual(rows, tuple(itertools.product([("set", ((0, n),)) for n in range(4)], repeat=4)))

    def test_a_try_may_let_a_later_one_be_refused(self):
        once = (0, 1, ("same", ("cell", 0), ("is", 0)), ((0, ("is", 1)),), (0,))
        game = (2, ((2, 0),), (once,), ((YES,), (YES,)))
        self.assertEqual(alone_rows(game, (0,), (0, 0)), ((("set", ((0, 1),)), REFUSED),))


class Guesses(unittest.TestCase):
    def test_what_all_rows_have(self):
        known, open_ones = 0, 0
        for trying in some_trying(503, 250):
            rows, states = [], []
            for state in trying.known:
                for row, behind in trying.rows_alone(state, trying.tries).items():
                    rows.append(row)
                    states.append(behind)
            wanted = tuple(items[0] if len(set(items)) == 1 else None for items in zip(*rows))
            self.assertEqual(guess_alone(*trying.arguments), wanted)
            self.assertEqual(guess_cells(*trying.arguments), trying.cells(states))
            known += sum(item is not None for item in wanted)
            open_ones += wanted.count(None)
        self.assertGreater(min(known, open_ones), 100)

    def test_states_that_never_come(self):
        self.assertEqual(guess_alone(THROWS, 0, ((3,), (4,)), (0,)), (None,))
        self.assertEqual(guess_alone(LAMP, 0, ((0, 1, 1), (1, 1, 1)), (3, 0)), (("set", ((0, 1),)), ("set", ((1, 1),))))

    def test_cells_seen_hidden_and_neither(self):
        sights = (("same", ("cell", 0), ("is", 0)), ("not", YES))
        game = (2, ((2, 0), (2, 0)), ((0, 2, YES, ((0, ("draw",)),), (0,)),), (sights, (YES, YES)))
        self.assertEqual(guess_cells(game, 0, ((0, 0),), (0,)), (None, "hidden"))
        self.assertEqual(guess_cells(game, 1, ((0, 0),), ()), (("seen", 0), ("seen", 0)))
        fixed = (2, game[1], ((0, 1, YES, ((0, ("is", 0)),), (0,)),), game[3])
        self.assertEqual(guess_cells(fixed, 0, ((0, 0), (1, 1)), (0,)), (("seen", 0), "hidden"))

    def test_too_many_pairs_by_tries_alone(self):
        states = wide_states(3001)
        for guess in (guess_alone, guess_cells):
            # All states, and the one behind the try.
            guess(wide(), 0, states[:2999], (0,))
            too_many(self, lambda: guess(wide(), 0, states[:3000], (0,)))
            # Those of the first try and of the second one are counted twice.
            guess(wide(), 0, states[:1000], (1, 1))
            too_many(self, lambda: guess(wide(), 0, states[:1001], (1, 1)))
            too_many(self, lambda: guess(wide(), 0, states, (1,)))
            # What others do is not counted.
            counting = tuple((1, 1, YES, ((cell, ("sum", ("cell", cell), ("is", 1))),), (1,)) for cell in range(5))
            guess(wide(counting), 0, states[:2999], (0,))

    def test_rows_from_one_state_are_never_too_many(self):
        try:
            alone_rows(wide(), (5,) * 6, (0, 1, 0, 1))
        except TooMany:
            self.fail()


if __name__ == "__main__":
    unittest.main()

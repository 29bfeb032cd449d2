"""Letters, what is heard of plays, and the order of letters."""

import functools
import itertools
import unittest

from knownplay.knowngames import known_game
from knownplay.knownwires import bare_wire, plain_wire, silent_wire
from knownplay.wires import first_letter, heard, heard_by, letter, letter_order, wire_error
from tests.model import Model
from tests.test_plays import some_games
from tests.things import YES, Things

NO = ("not", YES)
DONE = ("done",)
LOW = ("below", ("cell", 0), ("is", 3))
# The player 0 adds what is drawn to the cell 0 while it is below 3; 1 never can do its deed; the server's deed 2 turns.
ADD = (0, 3, LOW, ((0, ("sum", ("cell", 0), ("sum", ("draw",), ("is", 1)))),), (0,))
NEVER = (1, 4, NO, ((1, ("is", 0)),), (0, 1))
SERVE = (None, 2, YES, ((1, ("less", ("is", 0), ("cell", 1))),), ())
GAME = (2, ((6, 1), (5, 2)), (ADD, NEVER, SERVE), ((YES, YES), (YES, NO)))
ALL = ((YES, ("cell", 0)), (YES, ("was", 0)), (YES, ("cell", 1)), (YES, ("was", 1)), (YES, ("deed",)), (YES, ("draw",)),
       (YES, ("choose", DONE, ("is", 1), ("is", 0))))
SOME = (
    (("same", ("deed",), ("is", 3)), ("less", ("deed",), ("is", 99))),
    (("below", ("cell", 0), ("was", 0)), ("sum", ("cell", 0), ("cell", 0))),
    (NO, ("is", 5)),
    (("not", DONE), ("less", ("is", 0), ("deed",))),
    (("same", ("draw",), ("is", 2)), ("draw",)),
    (("both", DONE, ("not", ("same", ("cell", 0), ("was", 0)))), ("less", ("was", 0), ("cell", 0))),
)
WIRE = (ALL, SOME)


def compared(one, other):
    """Below, at or above 0 as one comes ahead of the other, is the same, or comes behind it."""
    if isinstance(one, tuple):
        for item, its_like in zip(one, other):
            order = compared(item, its_like)
            if order:
                return order
        return len(one) - len(other)
    if one is None or other is None:
        return (one is not None) - (other is not None)
    return (one > other) - (one < other)


class Letters(unittest.TestCase):
    def test_the_wire_is_one(self):
        self.assertIsNone(wire_error(GAME, WIRE))

    def test_letters_of_the_beginning(self):
        self.assertEqual(first_letter(GAME, WIRE, 0), (1, 1, 2, 2, 3, 0, 1))
        self.assertEqual(first_letter(GAME, WIRE, 1), (-96, None, None, None, None, None))

    def test_letters_of_moves_that_are_done(self):
        self.assertEqual(letter(GAME, WIRE, 0, (2, 4), (0, 2)), (5, 2, 4, 4, 0, 2, 1))
        self.assertEqual(letter(GAME, WIRE, 1, (2, 4), (0, 2)), (None, None, None, None, 2, -3))
        self.assertEqual(letter(GAME, WIRE, 0, (2, 4), (0, 0)), (3, 2, 4, 4, 0, 0, 1))
        self.assertEqual(letter(GAME, WIRE, 1, (2, 4), (0, 0)), (None, None, None, None, None, -1))
        self.assertEqual(letter(GAME, WIRE, 0, (5, 4), (2, 1)), (5, 5, 1, 4, 2, 1, 1))
        self.assertEqual(letter(GAME, WIRE, 1, (5, 4), (2, 1)), (None,) * 6)

    def test_letters_of_moves_that_are_refused(self):
        self.assertEqual(letter(GAME, WIRE, 0, (2, 4), (1, 0)), (2, 2, 4, 4, 1, 0, 0))
        self.assertEqual(letter(GAME, WIRE, 1, (2, 4), (1, 0)), (None, None, None, -1, None, None))
        self.assertEqual(letter(GAME, WIRE, 0, (3, 0), (0, 0)), (3, 3, 0, 0, 0, 0, 0))
        self.assertEqual(letter(GAME, WIRE, 1, (3, 0), (0, 0)), (None, None, None, 0, None, None))

    def test_the_cell_now_and_a_tick_ahead_are_told_apart(self):
        down = (2, ((6, 4),), ((None, 1, YES, ((0, ("less", ("cell", 0), ("is", 1))),), ()),), ((YES,), (YES,)))
        wire = ((SOME[1],), ((("below", ("was", 0), ("cell", 0)), ("is", 9)),))
        self.assertEqual(heard(down, wire, (0, 1), ((0, 0),) * 5),
                         (((None,), (None,)), ((6,), (None,)), ((4,), (None,)), ((2,), (None,)), ((0,), (None,)),
                          ((None,), (9,))))

    def test_letters_of_all_moves_of_many_games(self):
        things = Things(51)
        for game in some_games(51, 40, 60):
            model = Model(game)
            wire = things.wire(game, 3)
            many = len(game[2])
            for player, rule in enumerate(wire):
                wanted = model.letter(rule, (model.first, model.first, many, 0, True))
                self.assertEqual(first_letter(game, wire, player), wanted)
                for state in model.all_states():
                    for move, (done, behind) in model.moves(state).items():
                        wanted = model.letter(rule, (behind, state, *move, done))
                        self.assertEqual(repr(letter(game, wire, player, state, move)), repr(wanted))

    def test_a_rule_without_entries_tells_the_empty_letter(self):
        for player in range(2):
            self.assertEqual(first_letter(GAME, silent_wire(GAME), player), ())
            self.assertEqual(letter(GAME, silent_wire(GAME), player, (2, 4), (0, 1)), ())
            self.assertEqual(heard_by(GAME, silent_wire(GAME), player, ((0, 0), (1, 0))), ((), (), ()))


class Heard(unittest.TestCase):
    def test_what_all_ears_hear_of_plays_of_many_games(self):
        things = Things(52)
        for game in some_games(52, 40):
            model = Model(game)
            wire = things.wire(game)
            for many in (0, 1, 4, 12):
                play = model.some_play(things.random, many)
                rows = [model.row(rule, play) for rule in wire]
                for player, row in enumerate(rows):
                    self.assertEqual(heard_by(game, wire, player, play), row)
                    self.assertEqual(len(row), len(play) + 1)
                for count in range(1, game[0] + 1):
                    for ears in itertools.combinations(range(game[0]), count):
                        wanted = tuple(zip(*[rows[ear] for ear in ears]))
                        self.assertEqual(heard(game, wire, ears, play), wanted)

    def test_a_row_begins_as_the_beginning_of_the_play(self):
        things = Things(53)
        for game in some_games(53, 25):
            wire = things.wire(game)
            play = Model(game).some_play(things.random, 10)
            ears = tuple(range(game[0]))
            for k in range(len(play) + 1):
                for player in ears:
                    self.assertEqual(heard_by(game, wire, player, play[:k]), heard_by(game, wire, player, play)[:k + 1])
                self.assertEqual(heard(game, wire, ears, play[:k]), heard(game, wire, ears, play)[:k + 1])

    def test_letters_hang_on_the_move_and_the_state_alone(self):
        play = ((0, 0), (1, 0), (2, 1), (0, 0), (0, 0), (2, 0))
        states = Model(GAME).through(play)
        for player in range(2):
            wanted = [first_letter(GAME, WIRE, player)]
            wanted += [letter(GAME, WIRE, player, state, move) for state, move in zip(states, play)]
            self.assertEqual(heard_by(GAME, WIRE, player, play), tuple(wanted))
            self.assertEqual(heard(GAME, WIRE, (player,), play), tuple((one,) for one in wanted))

    def test_silence_is_the_same_for_plays_of_as_many_ticks(self):
        for game in some_games(54, 15):
            wire = silent_wire(game)
            for play in Model(game).plays(2)[:60]:
                for player in range(game[0]):
                    self.assertEqual(heard_by(game, wire, player, play), ((),) * (len(play) + 1))

    def test_a_play_of_some_thousand_ticks(self):
        things = Things(55)
        game = known_game("lamps")
        play = Model(game).some_play(things.random, 3000)
        for wire in (plain_wire(game), bare_wire(game)):
            rows = [Model(game).row(rule, play) for rule in wire]
            self.assertEqual(heard(game, wire, (0, 1, 2), play), tuple(zip(*rows)))
            self.assertEqual(heard_by(game, wire, 2, play), rows[2])


class Order(unittest.TestCase):
    def check(self, some):
        """The order of some letters, or of what is made of them, is that of comparing them item by item."""
        wanted = sorted(set(some), key=functools.cmp_to_key(compared))
        self.assertEqual(repr(letter_order(tuple(some))), repr(tuple(wanted)))

    def test_none_comes_ahead_of_every_integer(self):
        far = 10 ** 399
        self.assertEqual(letter_order(((0,), (-1,), (None,), (far,), (-far,), (1,), (-2,))),
                         ((None,), (-far,), (-2,), (-1,), (0,), (1,), (far,)))
        self.assertEqual(letter_order(((-1, None), (None, 5), (-1, -5), (None, None))),
                         ((None, None), (None, 5), (-1, None), (-1, -5)))

    def test_each_comes_once(self):
        self.assertEqual(letter_order(()), ())
        self.assertEqual(letter_order(((), (), ())), ((),))
        self.assertEqual(letter_order(((3, None),) * 4), ((3, None),))
        self.assertEqual(letter_order((((1,), (2,)), ((1,), (2,)))), (((1,), (2,)),))

    def test_letters_of_ears_go_by_the_first_ear(self):
        self.assertEqual(letter_order((((1,), (None,)), ((None,), (9,)), ((1,), (-4,)), ((0,), (9,)))),
                         (((None,), (9,)), ((0,), (9,)), ((1,), (None,)), ((1,), (-4,))))

    def test_a_row_that_ends_comes_ahead(self):
        self.assertEqual(letter_order((((2,), (1,)), ((2,),), ((1,), (7,), (7,)), (), ((2,), (None,)))),
                         ((), ((1,), (7,), (7,)), ((2,),), ((2,), (None,)), ((2,), (1,))))
        self.assertEqual(letter_order((((), (), ()), ((),), ((), ()))), (((),), ((), ()), ((), (), ())))

    def test_many_letters_letters_of_ears_and_rows(self):
        things = Things(56)
        numbers = (None, None, 0, 1, -1, 2, 10 ** 50, -(10 ** 50))
        for _ in range(60):
            sizes = [things.random.randint(0, 3) for _ in range(things.random.randint(1, 3))]
            letters = [tuple(tuple(things.random.choice(numbers) for _ in range(size)) for size in sizes)
                       for _ in range(30)]
            self.check([told[0] for told in letters])
            self.check(letters)
            cuts = [sorted(things.random.choices(range(31), k=2)) for _ in range(20)]
            self.check([tuple(letters[low:high]) for low, high in cuts])
            self.check([tuple(told[0] for told in letters[low:high]) for low, high in cuts])

    def test_rows_of_all_short_plays(self):
        for game in some_games(57, 10):
            wire = Things(58).wire(game)
            plays = Model(game).plays(2)[:50]
            self.check([heard_by(game, wire, 0, play) for play in plays])
            self.check([heard(game, wire, (0, 1), play) for play in plays])


if __name__ == "__main__":
    unittest.main()

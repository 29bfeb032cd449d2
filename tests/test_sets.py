"""Sets known by rows, against all plays that are heard so; what is sure, witnesses and wrong plays."""

import itertools
import unittest

from knownplay.errors import Unfit
from knownplay.knowngames import known_game, known_names
from knownplay.knownwires import bare_wire, plain_wire, silent_wire
from knownplay.plays import play_error, state_of, states
from knownplay.sets import begun, gone_on, known, next_letters, sure, witnesses, wrong_play
from knownplay.wires import heard
from tests.knowing import MIXED, Knowing, as_set, in_order, some_knowing, sure_of
from tests.model import Model
from tests.things import HIDE, ODD_VALUES, YES, Things

UP = ("same", ("cell", 1), ("is", 1))
FLIP = (2, ((2, 0), (2, 0)), ((0, 2, YES, ((0, ("draw",)), (1, ("is", 0))), (0, 1)),
                              (0, 1, YES, ((1, ("is", 1)),), (0, 1)), (1, 1, YES, (), (0, 1))), ((YES, YES), (UP, YES)))
BOTH_CELLS = ((YES, ("cell", 0)), (YES, ("cell", 1)))
QUIET = (BOTH_CELLS, ((UP, ("cell", 0)), (YES, ("cell", 1))))
SPOKEN = (BOTH_CELLS, QUIET[1] + ((YES, ("deed",)),))
LISTENING = (FLIP, QUIET, (1,))


def spoilt_letters(letters):
    """Things that are like these letters of ears, and not the same."""
    found = [list(letters), letters[:-1], letters + ((),), (letters,), letters + letters, None]
    for ear, letter in enumerate(letters):
        bad = [list(letter), letter + (0,), letter + (None,), letter[:-1] + ("0",), None]
        bad += [letter[:k] + (other,) + letter[k + 1:] for k, item in enumerate(letter)
                for other in (True, False, "", (), 10 ** 30, [], None if item is not None else 99)]
        if not letter:
            bad = [[], (0,), (None,), None, ((),)]
        found += [letters[:ear] + (one,) + letters[ear + 1:] for one in bad]
    return found


class Known(unittest.TestCase):
    def test_rows_of_short_plays_letter_by_letter(self):
        uncertain = 0
        for knowing in some_knowing(101, 300):
            game, wire, ears = knowing.game, knowing.wire, knowing.ears
            for ticks in range(5):
                for row, some in knowing.known_by_plays(ticks).items():
                    uncertain += len(some) > 1
                    self.assertEqual(known(game, wire, ears, row), some, (game, wire, ears, row))
                    letters = next_letters(game, wire, ears, some)
                    self.assertEqual(letters, knowing.next_heard(some))
                    for told in letters:
                        behind = gone_on(game, wire, ears, some, told)
                        self.assertEqual(behind, knowing.after(some, told))
                        self.assertEqual(known(game, wire, ears, row + (told,)), behind)
        self.assertGreater(uncertain, 500)

    def test_known_games_by_their_wires(self):
        for name in known_names():
            game = known_game(name)
            for wire in (plain_wire(game), bare_wire(game), silent_wire(game)):
                for ears in ((0,), (1,), tuple(range(game[0]))):
                    knowing = Knowing(game, wire, ears)
                    self.assertEqual(begun(game, wire, ears), (knowing.first_letters(), (knowing.first,)))
                    for row, some in knowing.known_by_plays(2).items():
                        self.assertEqual(known(game, wire, ears, row), some)

    def test_begun_of_many(self):
        for knowing in some_knowing(102, 60):
            wanted = (knowing.first_letters(), (knowing.first,))
            self.assertEqual(begun(knowing.game, knowing.wire, knowing.ears), wanted)

    def test_rows_that_are_not_heard(self):
        for knowing in some_knowing(103, 30):
            game, wire, ears = knowing.game, knowing.wire, knowing.ears
            rows = knowing.known_by_plays(2)
            letters = in_order(told for row in rows for told in row)
            for row in itertools.product(letters, repeat=3):
                self.assertEqual(known(game, wire, ears, row), rows.get(row, ()))
            for told in letters:
                wanted = (knowing.first,) if told == knowing.first_letters() else ()
                self.assertEqual(known(game, wire, ears, (told,)), wanted)

    def test_rows_and_letters_that_are_none(self):
        for knowing in some_knowing(104, 25):
            game, wire, ears = knowing.game, knowing.wire, knowing.ears
            for row in list(knowing.known_by_plays(2))[:6]:
                self.assertEqual(known(game, wire, ears, list(row)), ())
                for k, letters in enumerate(row):
                    some = known(game, wire, ears, row[:k])
                    for bad in spoilt_letters(letters):
                        if repr(bad) not in [repr(told) for told in knowing.next_heard(some)]:
                            self.assertEqual(gone_on(game, wire, ears, some, bad), (), bad)
                            if repr(bad) != repr(row[0]):
                                self.assertEqual(known(game, wire, ears, row[:k] + (bad,) + row[k + 1:]), (), bad)
                                self.assertEqual(known(game, wire, ears, row[:k] + (bad,)), ())
        for value in ODD_VALUES + MIXED:
            self.assertEqual(known(*LISTENING, value), ())
            self.assertEqual(gone_on(*LISTENING, ((0, 0), (1, 0)), value), ())
            self.assertEqual(known(*LISTENING, (value,)), ())
            self.assertEqual(known(*LISTENING, (((None, 0),), value)), ())
        self.assertEqual(known(*LISTENING, ()), ())
        self.assertEqual(known(*LISTENING, (((None, False),),)), ())
        self.assertEqual(known(*LISTENING, (((None, 0),),)), ((0, 0),))

    def test_true_is_not_one(self):
        one = (((None, 0),), ((None, 0),), ((1, 1),))
        self.assertEqual(known(*LISTENING, one), ((1, 1),))
        for item in ((True, 1), (1, True), (True, True)):
            self.assertEqual(known(*LISTENING, one[:2] + ((item,),)), ())
            self.assertEqual(gone_on(*LISTENING, ((1, 0),), (item,)), ())

    def test_lots_of_states_that_are_known_by_no_row(self):
        things = Things(105)
        for knowing in some_knowing(106, 60):
            game, wire, ears = knowing.game, knowing.wire, knowing.ears
            come = states(game)
            lots = [tuple(state for state in come if things.random.random() < 0.5) for _ in range(6)] + [come, ()]
            for some in lots:
                letters = next_letters(game, wire, ears, some)
                self.assertEqual(letters, knowing.next_heard(some))
                for told in letters + knowing.next_heard(come) + (((),),):
                    self.assertEqual(gone_on(game, wire, ears, some, told), knowing.after(some, told))
            one, other = lots[:2]
            both = as_set({*one, *other})
            self.assertEqual(next_letters(game, wire, ears, both),
                             in_order(next_letters(game, wire, ears, one) + next_letters(game, wire, ears, other)))
            for told in next_letters(game, wire, ears, both):
                joined = {*gone_on(game, wire, ears, one, told), *gone_on(game, wire, ears, other, told)}
                self.assertEqual(gone_on(game, wire, ears, both, told), as_set(joined))

    def test_more_ears_know_more(self):
        for knowing in some_knowing(107, 60):
            game, wire = knowing.game, knowing.wire
            players = tuple(range(game[0]))
            for play, _, come in knowing.plays_heard(3)[:50]:
                sets = {}
                for many in range(1, game[0] + 1):
                    for ears in itertools.combinations(players, many):
                        sets[ears] = known(game, wire, ears, heard(game, wire, ears, play))
                        self.assertIn(come[-1], sets[ears])
                for ears, some in sets.items():
                    for more, its_like in sets.items():
                        if set(ears) <= set(more):
                            self.assertLessEqual(set(its_like), set(some))

    def test_where_the_game_ends_no_letters_come(self):
        over = (2, ((2, 0),), ((None, 1, ("same", ("cell", 0), ("is", 0)), ((0, ("is", 1)),), ()),), ((YES,), (YES,)))
        self.assertEqual(next_letters(over, ((), ()), (0,), ((1,),)), ())
        self.assertEqual(next_letters(over, ((), ()), (0,), ((0,),)), (((),),))
        self.assertEqual(known(over, ((), ()), (0,), (((),), ((),), ((),))), ())

    def test_rows_of_more_than_a_thousand_letters(self):
        things = Things(108)
        for game, wire in ((known_game("cups"), None), (known_game("door"), None), (FLIP, QUIET), (HIDE, None)):
            wire = plain_wire(game) if wire is None else wire
            play = Model(game).some_play(things.random, 1500)
            for ears in ((0,), (1,), (0, 1)):
                row = heard(game, wire, ears, play)
                some = known(game, wire, ears, row)
                self.assertIn(state_of(game, play), some)
                found = witnesses(game, wire, ears, row)
                self.assertEqual([state_of(game, one) for one in found], list(some))
                self.assertTrue(all(heard(game, wire, ears, one) == row for one in found))
                self.assertIsNone(wrong_play(game, wire, ears, row, sure(game, some)))
                self.assertEqual(known(game, wire, ears, row[:1200] + (((9,),),) + row[1201:]), ())


class Sure(unittest.TestCase):
    def test_of_lots_of_states(self):
        things = Things(111)
        for knowing in some_knowing(112, 60):
            come = states(knowing.game)
            for _ in range(10):
                some = tuple(sorted(things.random.sample(come, things.random.randint(1, len(come)))))
                self.assertEqual(repr(sure(knowing.game, some)), repr(sure_of(some)))

    def test_of_one_state_all_is_sure(self):
        for state in itertools.product(range(2), range(3)):
            self.assertEqual(sure(HIDE, (state,)), state)
        self.assertEqual(sure(HIDE, ((0, 1), (1, 1))), (None, 1))
        self.assertEqual(sure(HIDE, ((0, 0), (0, 2))), (0, None))
        self.assertEqual(sure(HIDE, ((0, 0), (1, 2))), (None, None))


class Witnesses(unittest.TestCase):
    def test_one_for_each_state(self):
        for knowing in some_knowing(121, 60):
            game, wire, ears = knowing.game, knowing.wire, knowing.ears
            for ticks in range(4):
                for row, some in list(knowing.known_by_plays(ticks).items())[:40]:
                    found = witnesses(game, wire, ears, row)
                    self.assertEqual([play_error(game, play) for play in found], [None] * len(some))
                    self.assertEqual([state_of(game, play) for play in found], list(some))
                    self.assertEqual({heard(game, wire, ears, play) for play in found}, {row})

    def test_of_rows_that_are_not_heard(self):
        for value in ODD_VALUES + MIXED + ((((None, 0),), ((1, 1),)), (((None, False),),)):
            self.assertEqual(witnesses(*LISTENING, value), ())
            self.assertIsNone(wrong_play(*LISTENING, value, (0, 1)))


class Wrong(unittest.TestCase):
    def test_of_all_showings(self):
        wrong = 0
        for knowing in some_knowing(131, 40):
            game, wire, ears = knowing.game, knowing.wire, knowing.ears
            for row, some in list(knowing.known_by_plays(3).items())[:8]:
                self.assertIsNone(wrong_play(game, wire, ears, row, sure(game, some)))
                for shown in itertools.product(*[(None,) + tuple(range(size)) for size, _ in game[1]]):
                    play = wrong_play(game, wire, ears, row, shown)
                    right = all(item in (None, value) for state in some for item, value in zip(shown, state))
                    if right:
                        self.assertIsNone(play)
                        continue
                    wrong += 1
                    self.assertIsNone(play_error(game, play))
                    self.assertEqual(heard(game, wire, ears, play), row)
                    behind = zip(shown, state_of(game, play))
                    self.assertTrue(any(item is not None and item != value for item, value in behind))
        self.assertGreater(wrong, 500)

    def test_showings_that_are_none(self):
        row = (((None, 0),), ((None, 0),))
        for shown in ((2, 0), (0, 2), (-1, 0), (0, -1), (True, 0), (None, False), (0,), (0, 0, 0), (None,) * 3, (), [0, 0],
                      [None, None], "00", {0: 0, 1: 0}, ("0", 0), ((0,), 0), (0, [0]), None, 0, True) + ODD_VALUES:
            for some in (row, (), None, (((9,),),)):
                with self.assertRaises(Unfit) as caught:
                    wrong_play(*LISTENING, some, shown)
                self.assertEqual(vars(caught.exception), {})
        for shown in ((1, 1), (None, None), (0, None), (1, 0)):
            wrong_play(*LISTENING, row, shown)


if __name__ == "__main__":
    unittest.main()

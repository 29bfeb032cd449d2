"""Owners, pieces and histories: how deeds are cut, done by pieces and whole; rings and orders."""

import itertools
import unittest

from knownplay.cuts import owners_error, pieces, uncut
from knownplay.errors import Unfit
from knownplay.histories import done_by_pieces, done_whole, follows, history_error, order_error, order_of, ring_error
from knownplay.histories import ring_of
from knownplay.knowngames import known_game, known_names
from knownplay.plays import stepped
from tests.knowing import MIXED
from tests.things import ODD_VALUES, YES, Things
from tests.weaving import C0, C1, OWNERS, PUT, STORE, following, go_through, go_whole, histories, is_cut, orders_with
from tests.weaving import pieces_of, some_history, some_woven

TWO, MINGLED = ((0, 0), (0, 0)), ((0, 0), (1, 0), (1, 1), (0, 1))


class Owners(unittest.TestCase):
    def test_owners(self):
        for value in ((0, 1, 1), (5, 5, 5), (0, 0, 0), (5, 0, 3)):
            self.assertIsNone(owners_error(STORE, value))
        for value in ODD_VALUES + MIXED + ((0, 1), (0, 1, 1, 1), (0, 1, 6), (0, -1, 1), (0, True, 1), (False, 1, 1),
                                           [0, 1, 1],
                                           (0, None, 1), (0, "1", 1), (0, (1,), 1), (10 ** 399, 0, 0)):
            right = isinstance(value, tuple) and len(value) == 3 and all(type(item) is int and 0 <= item < 6
                                                                         for item in value)
            wanted = None if right else "form"
            self.assertEqual(owners_error(STORE, value), wanted, value)

    def test_known_games(self):
        things = Things(561)
        for name in known_names():
            game = known_game(name)
            for _ in range(20):
                owners = tuple(things.random.randrange(6) for _ in game[1])
                bad = tuple(d for d, deed in enumerate(game[2]) if not is_cut(owners, deed))
                self.assertEqual(uncut(game, owners), bad)
                for number, deed in enumerate(game[2]):
                    if number in bad:
                        with self.assertRaises(Unfit):
                            pieces(game, owners, number)
                    else:
                        self.assertEqual(pieces(game, owners, number), pieces_of(owners, deed))
            self.assertEqual(uncut(game, (3,) * len(game[1])), ())

    def test_drawn_games(self):
        things = Things(562)
        bad, good = 0, 0
        for _ in range(200):
            game = things.game(2)
            owners = tuple(things.random.randrange(2) for _ in game[1])
            wrong = tuple(d for d, deed in enumerate(game[2]) if not is_cut(owners, deed))
            self.assertEqual(uncut(game, owners), wrong)
            bad, good = bad + len(wrong), good + len(game[2]) - len(wrong)
            for number in range(len(game[2])):
                if number not in wrong:
                    self.assertEqual(pieces(game, owners, number), pieces_of(owners, game[2][number]))
        self.assertGreater(min(bad, good), 100)

    def test_guards_and_effects_that_are_not_cut(self):
        cells, sights = ((2, 0),) * 3, ((YES,) * 3,) * 2
        same = lambda c: ("same", ("cell", c), ("is", 0))
        for cut, guard, effects in (
                (True, same(0), ((1, ("is", 0)),)), (False, same(1), ((0, ("is", 0)),)),
                (False, ("both", same(0), same(1)), ()),
                (True, same(1), ()), (True, YES, ((0, ("is", 0)), (1, C0))), (False, YES, ((0, C1),)),
                (False, YES, ((0, C1), (1, C0))),
                (True, YES, ((2, C1), (1, ("draw",)))[::-1]), (True, YES, ((1, ("choose", same(0), ("is", 0), C1)),)),
                (False, same(1), ((1, C0),)), (True, same(0), ((2, C0),))):
            game = (2, cells, ((None, 1, guard, effects, ()),), sights)
            self.assertEqual(uncut(game, (0, 1, 1)), () if cut else (0,), (guard, effects))

    def test_deeds_that_touch_nothing_ask_alone_or_set_alone(self):
        game = (2, ((2, 0),) * 2, ((None, 1, YES, (), ()), (None, 1, ("same", C1, C1), (), ()),
                                   (None, 1, YES, ((1, ("is", 1)),), ())),
                ((YES,) * 2,) * 2)
        self.assertEqual([pieces(game, (4, 5), number) for number in range(3)],
                         [((0, (), ()),), ((5, (1,), ()),), ((5, (), (1,)),)])


class Histories(unittest.TestCase):
    def test_faults_in_their_order(self):
        bad = lambda value, some=TWO: history_error(STORE, OWNERS, some, value)
        for value in (None, [], list(MINGLED), MINGLED[:3] + ((0,),), MINGLED[:3] + ((0, True),),
                      MINGLED[:3] + ((False, 1),), MINGLED[:3] + ([0, 1],),
                      MINGLED[:3] + ((0, 1, 0),), MINGLED[:3] + (None,), ((9, 9), (0, "1"))):
            self.assertEqual(bad(value), "form", value)
        for k, value in ((0, ((0, 1),)), (0, ((1, 1), (1, 0))), (1, ((0, 0), (0, 0))), (1, ((0, 0), (2, 0))),
                         (1, ((0, 0), (-1, 0))),
                         (2, ((0, 0), (0, 1), (0, 2))), (1, ((0, 0), (1, -1))), (4, MINGLED + ((1, 1),)),
                         (0, ((10 ** 399, 0),)),
                         (3, ((0, 0), (1, 0), (0, 1), (0, 1)))):
            self.assertEqual(bad(value), ("item", k), value)
        for pair, value in (((0, 0), ()), ((0, 1), ((0, 0),)), ((1, 0), ((0, 0), (0, 1))), ((0, 0), ((1, 0), (1, 1))),
                            ((0, 1), MINGLED[:3]),
                            ((1, 1), ((0, 0), (1, 0), (0, 1)))):
            self.assertEqual(bad(value), ("lacks", pair), value)
        self.assertEqual(bad(((0, 0), (1, 0), (2, 0)), ((0, 0), (4, 0), (1, 0))), ("lacks", (0, 1)))

    def test_all_histories_and_no_others(self):
        for game, owners, some in some_woven(563, 60):
            cut = [pieces_of(owners, game[2][deed]) for deed, _ in some]
            every = list(itertools.islice(histories(cut), 200))
            for history in every:
                self.assertIsNone(history_error(game, owners, some, history))
            pairs = [(k, p) for k, own in enumerate(cut) for p in range(len(own))]
            if len(pairs) <= 5:
                allowed = set(every)
                for row in itertools.permutations(pairs):
                    self.assertEqual(history_error(game, owners, some, row) is None, row in allowed)

    def test_values_of_any_kind(self):
        for value in ODD_VALUES + MIXED:
            error = history_error(STORE, OWNERS, ((4, 0), (1, 0)), value)
            if value == ():
                self.assertEqual(error, ("lacks", (0, 0)))
            elif value == ((0, 0), (0, 0)):
                self.assertEqual(error, ("item", 1))
            else:
                self.assertIn(error, ("form", ("item", 0), ("lacks", (1, 0))), value)
            self.assertEqual(ring_error(STORE, OWNERS, TWO, MINGLED, value), "form")
            self.assertEqual(order_error(STORE, OWNERS, TWO, MINGLED, value), "form")

    def test_deeds_that_are_not_cut(self):
        some, history = ((0, 0), (2, 0)), ((0, 0),)
        for call in (lambda: history_error(STORE, OWNERS, some, None), lambda: follows(STORE, OWNERS, some, history),
                     lambda: done_by_pieces(STORE, OWNERS, (0, 0, 0), some, history),
                     lambda: ring_of(STORE, OWNERS, some, history),
                     lambda: order_of(STORE, OWNERS, some, history),
                     lambda: ring_error(STORE, OWNERS, some, history, None),
                     lambda: order_error(STORE, OWNERS, some, history, None)):
            with self.assertRaises(Unfit):
                call()
        # Whole deeds are done wherever cells are kept.
        self.assertEqual(done_whole(STORE, (0, 0, 0), some, (0, 1)), ((1, 0, 0), (True, True)))


class Done(unittest.TestCase):
    def test_against_a_second_going(self):
        things = Things(564)
        refused, mixed = 0, 0
        for game, owners, some in some_woven(565, 200):
            cut = [pieces_of(owners, game[2][deed]) for deed, _ in some]
            for _ in range(6):
                history = some_history(things.random, cut)
                state = tuple(things.random.randrange(size) for size, _ in game[1])
                wanted = go_through(game, owners, state, some, history)
                self.assertEqual(done_by_pieces(game, owners, state, some, history), wanted)
                order = tuple(things.random.sample(range(len(some)), len(some)))
                self.assertEqual(done_whole(game, state, some, order), go_whole(game, state, some, order))
                refused += not all(wanted[1])
                mixed += history != tuple(sorted(history))
        self.assertGreater(min(refused, mixed), 50)

    def test_whole_deeds_are_moves(self):
        things = Things(566)
        for game, _, some in some_woven(567, 60):
            state = tuple(things.random.randrange(size) for size, _ in game[1])
            behind, done = done_whole(game, state, some, tuple(range(len(some))))
            for (deed, drawn), is_done in zip(some, done):
                if is_done:
                    state = stepped(game, state, (deed, drawn))
            self.assertEqual(behind, state)

    def test_a_guard_is_looked_at_with_the_first_piece_alone(self):
        # The guard of the second put fails at its first piece, the one of the first put did not.
        state, some = (2, 0, 0), ((0, 0), (0, 0))
        self.assertEqual(done_by_pieces(STORE, OWNERS, state, some, ((0, 0), (1, 0), (0, 1), (1, 1))),
                         ((3, 2, 0), (True, False)))
        self.assertEqual(done_by_pieces(STORE, OWNERS, state, some, ((1, 0), (0, 0), (0, 1), (1, 1))),
                         ((3, 2, 0), (False, True)))
        # A piece reads what stands there then, and keeps it.
        self.assertEqual(done_by_pieces(STORE, OWNERS, (0, 3, 3), ((3, 0), (0, 0)), ((0, 0), (1, 0), (1, 1), (0, 1))),
                         ((1, 0, 0), (True, True)))

    def test_effects_are_worth_what_was_read_ahead_of_all_setting(self):
        swap = (None, 1, YES, ((0, C1), (1, C0)), ())
        game = (2, ((3, 0), (3, 0)), (swap,), ((YES,) * 2,) * 2)
        self.assertEqual(done_by_pieces(game, (0, 0), (1, 2), ((0, 0),), ((0, 0),)), ((2, 1), (True,)))
        self.assertEqual(done_whole(game, (1, 2), ((0, 0), (0, 0)), (1, 0)), ((1, 2), (True, True)))

    def test_drawn_numbers_and_sizes(self):
        throw = (None, 4, YES, ((0, ("draw",)), (1, ("sum", C0, ("draw",)))), ())
        game = (2, ((3, 0), (2, 0)), (throw,), ((YES,) * 2,) * 2)
        for drawn in range(4):
            behind = done_by_pieces(game, (0, 1), (2, 0), ((0, drawn),), ((0, 0), (0, 1)))
            self.assertEqual(behind, ((drawn % 3, (2 + drawn) % 2), (True,)))


class Rings(unittest.TestCase):
    def test_exactly_one_of_a_ring_and_an_order(self):
        rings, orders = 0, 0
        for game, owners, some in some_woven(568, 120):
            cut = [pieces_of(owners, game[2][deed]) for deed, _ in some]
            for history in itertools.islice(histories(cut), 40):
                pairs = following(cut, history)
                self.assertEqual(follows(game, owners, some, history), pairs)
                every = orders_with(len(some), pairs)
                ring, order = ring_of(game, owners, some, history), order_of(game, owners, some, history)
                self.assertEqual((ring is None, order is None), (bool(every), not every))
                if every:
                    self.assertIn(order, every)
                    self.assertIsNone(order_error(game, owners, some, history, order))
                    orders += 1
                    for state in itertools.product(*[range(size) for size, _ in game[1]]):
                        behind = done_by_pieces(game, owners, state, some, history)
                        for one in every:
                            self.assertEqual(done_whole(game, state, some, one), behind)
                else:
                    self.assertTrue(all(pair in pairs for pair in zip(ring, ring[1:] + ring[:1])))
                    self.assertEqual(len(set(ring)), len(ring))
                    self.assertIsNone(ring_error(game, owners, some, history, ring))
                    rings += 1
        self.assertGreater(min(rings, orders), 50)

    def test_all_rows_of_occurrences(self):
        for game, owners, some in some_woven(569, 40):
            cut = [pieces_of(owners, game[2][deed]) for deed, _ in some]
            for history in itertools.islice(histories(cut), 6):
                pairs = following(cut, history)
                for row in itertools.product(range(len(some) + 1), repeat=len(some)):
                    is_order = sorted(row) == list(range(len(some)))
                    wrong = [pair for pair in pairs if is_order and row.index(pair[0]) > row.index(pair[1])]
                    wanted = "form" if not is_order else ("follows", wrong[0]) if wrong else None
                    self.assertEqual(order_error(game, owners, some, history, row), wanted)
                    for many in range(len(row) + 1):
                        ring = row[:many]
                        if many < 2 or len(set(ring)) < many or max(ring) >= len(some):
                            wanted = "form"
                        else:
                            fails = [k for k in range(many) if (ring[k], ring[(k + 1) % many]) not in pairs]
                            wanted = ("follows", fails[0]) if fails else None
                        self.assertEqual(ring_error(game, owners, some, history, ring), wanted)

    def test_form(self):
        for value in ((0, True), (0, 1, 0), (1, 0, 2), (0, -1), [1, 0], (1,), (), (0, (1,)), (None, 0), (0, "1")):
            self.assertEqual(ring_error(STORE, OWNERS, TWO, MINGLED, value), "form")
        for value in ((True, 0), (0, False), (0, 1, 1), (0,), (1, 2), [0, 1], (0, 0)):
            self.assertEqual(order_error(STORE, OWNERS, TWO, MINGLED, value), "form")

    def test_pieces_meet_where_one_of_them_sets(self):
        # Two that ask one cell alone do not meet; nor do pieces at unlike places, nor those of one deed.
        reader = (None, 1, ("same", C0, ("is", 0)), (), ())
        game = (2, ((2, 0), (2, 0)), (reader, (None, 1, YES, ((0, ("is", 1)),), ()), PUT), ((YES,) * 2,) * 2)
        self.assertEqual(follows(game, (0, 1), ((0, 0), (0, 0)), ((1, 0), (0, 0))), ())
        self.assertEqual(follows(game, (0, 1), ((0, 0), (1, 0)), ((0, 0), (1, 0))), ((0, 1),))
        self.assertEqual(follows(game, (0, 1), ((1, 0), (1, 0)), ((1, 0), (0, 0))), ((1, 0),))
        self.assertEqual(follows(game, (0, 1), ((2, 0),), ((0, 0), (0, 1))), ())

    def test_as_many_occurrences_as_there_may_be(self):
        some = ((0, 0),) * 16
        forth, back = [(k, 0) for k in range(16)], [(k, 1) for k in range(16)]
        self.assertEqual(order_of(STORE, OWNERS, some, tuple(forth + back)), tuple(range(16)))
        ring = ring_of(STORE, OWNERS, some, tuple(forth + back[::-1]))
        self.assertIsNone(ring_error(STORE, OWNERS, some, tuple(forth + back[::-1]), ring))
        self.assertEqual(len(follows(STORE, OWNERS, some, tuple(forth + back[::-1]))), 240)


if __name__ == "__main__":
    unittest.main()

"""Watchers: what they know behind plays, with which lag they help, and papers of that."""

import itertools
import unittest

from knownplay.errors import Unfit
from knownplay.knowngames import known_game, known_names
from knownplay.knownwires import bare_wire, plain_wire, silent_wire
from knownplay.plays import play_error
from knownplay.sets import known
from knownplay.watchers import helps, helps_error, reach, reach_error, reach_paper, watched
from knownplay.wires import heard
from tests.knowing import LIMIT, MIXED, Knowing, as_set, counting, some_knowing, too_many
from tests.model import Model
from tests.test_joiners import hidden_chain
from tests.test_sets import FLIP, QUIET, SPOKEN
from tests.things import ODD_VALUES, Things

RING = ("ring", (((None, 0, 3),), ((None, 0, 0),)), (1, 0), (), (((None, 0, 2),),))


class Watching(Knowing):
    """One player, and those who watch."""

    def __init__(self, game, wire, player):
        super().__init__(game, wire, (player,))
        self.player = player

    def uneven_behind(self, pair):
        """The uneven pairs to which letters lead from a pair."""
        found = [(self.after(pair[0], letters), self.after(pair[1], letters)) for letters in self.next_heard(pair[1])]
        return [both for both in found if both[0] != both[1]]

    def begun_pairs(self):
        """The uneven begun pairs."""
        return {(some, (state,)) for some, _ in self.table() for state in some if len(some) > 1}

    def uneven(self):
        """All uneven pairs that come."""
        todo = sorted(self.begun_pairs())
        found = set(todo)
        for pair in todo:
            new = [behind for behind in self.uneven_behind(pair) if behind not in found]
            found.update(new)
            todo.extend(new)
        return found

    def reach(self):
        """The least lag that helps nobody, found lag by lag; None if there is none."""
        layer, most = self.begun_pairs(), len(self.uneven())
        for lag in range(most + 1):
            if not layer:
                return lag
            layer = {behind for pair in layer for behind in self.uneven_behind(pair)}
        return None

    def shortest(self, lag):
        """How many ticks the shortest play has behind which a watcher with this lag helps; None if there is none."""
        far = {(self.first, self.alone()): 0}
        todo = list(far)
        for state, some in todo:
            pair, layer = (state, some), {(some, (state,))}
            for _ in range(lag):
                layer = {behind for one in layer if one[0] != one[1] for behind in self.uneven_behind(one)}
            if any(one != other for one, other in layer):
                return far[pair] + lag
            for _, letters, behind in self.moves_heard(state):
                new = (behind, self.after(some, letters))
                if new not in far:
                    far[new] = far[pair] + 1
                    todo.append(new)
        return None


def some_watching(seed, many):
    """So many Watchings of tiny games, of few items."""
    things = Things(seed)
    found = [Watching(knowing.game, knowing.wire, things.random.randrange(knowing.game[0]))
             for knowing in some_knowing(seed, many, 40)]
    found += [Watching(FLIP, wire, player) for wire in (QUIET, SPOKEN) for player in (0, 1)]
    return [one for one in found if one.table(60) is not None]


class Watched(unittest.TestCase):
    def test_against_all_plays_of_as_many_ticks(self):
        fewer = 0
        for watching in some_watching(321, 60):
            game, wire, player = watching.game, watching.wire, watching.player
            for ticks in range(4):
                plays = watching.plays_heard(ticks)
                for play, row, come in plays[:25]:
                    ahead = None
                    for lag in (0, 1, 2, 3, 4, 200):
                        cut = max(ticks - lag, 0)
                        wanted = {other[-1] for _, its_row, other in plays
                                  if its_row == row and other[:cut + 1] == come[:cut + 1]}
                        some = watched(game, wire, player, lag, play)
                        self.assertEqual(some, as_set(wanted))
                        self.assertIn(come[-1], some)
                        self.assertLessEqual(set(ahead or ()), set(some))
                        fewer += ahead is not None and ahead != some
                        ahead = some
                    self.assertEqual(ahead, known(game, wire, (player,), row))
        self.assertGreater(fewer, 200)

    def test_lags(self):
        play = ((0, 1), (2, 0))
        for lag in range(201):
            self.assertIn((1, 0), watched(FLIP, QUIET, 1, lag, play))
        for lag in (-1, 201, 10 ** 399, True, False, None, "1", "", (), (1,), [], [1], {}, {1: 1}) + ODD_VALUES[:20]:
            if type(lag) is int and 0 <= lag <= 200:
                continue
            for call in (lambda: watched(FLIP, QUIET, 1, lag, play), lambda: helps(FLIP, QUIET, 1, lag),
                         lambda: helps_error(FLIP, QUIET, 1, lag, play), lambda: helps_error(FLIP, QUIET, 1, lag, None)):
                with self.assertRaises(Unfit) as caught:
                    call()
                self.assertEqual(vars(caught.exception), {})
        # It is told ahead of all else.
        more = counting((5, 5, 5, 6, 4), (4, 4, 4, 5, 3))
        for lag in (-1, 201, None):
            with self.assertRaises(Unfit):
                helps(more, bare_wire(more), 0, lag)

    def test_of_a_long_play(self):
        game = known_game("lamps")
        play = Model(game).some_play(Things(322).random, 3000)
        for wire, lag in itertools.product((plain_wire(game), silent_wire(game)), (0, 1, 7, 200)):
            some = watched(game, wire, 1, lag, play)
            self.assertLessEqual(set(some), set(known(game, wire, (1,), heard(game, wire, (1,), play))))


class Helps(unittest.TestCase):
    def test_as_short_as_can_be(self):
        late = 0
        for watching in some_watching(323, 60):
            game, wire, player = watching.game, watching.wire, watching.player
            for lag in range(5):
                wanted, play = watching.shortest(lag), helps(game, wire, player, lag)
                if wanted is None:
                    self.assertIsNone(play)
                    continue
                late += lag > 1
                self.assertEqual((len(play), play_error(game, play)), (wanted, None))
                self.assertIsNone(helps_error(game, wire, player, lag, play))
                self.assertNotEqual(watched(game, wire, player, lag, play),
                                    known(game, wire, (player,), heard(game, wire, (player,), play)))
        self.assertGreater(late, 30)

    def test_all_short_plays(self):
        kinds = set()
        for watching in some_watching(324, 40):
            game, wire, player = watching.game, watching.wire, watching.player
            for lag, ticks in itertools.product(range(3), range(4)):
                for play, row, _ in watching.plays_heard(ticks)[:15]:
                    known_so = known(game, wire, (player,), row)
                    wanted = None if watched(game, wire, player, lag, play) != known_so else "none"
                    self.assertEqual(helps_error(game, wire, player, lag, play), wanted)
                    kinds.add((lag, wanted))
        self.assertEqual(len(kinds), 6)

    def test_values_that_are_no_plays(self):
        for value in ODD_VALUES + MIXED + (((0, 2),), ((0, True),), [(0, 0)], ((3, 0),)):
            wanted = "form" if play_error(FLIP, value) is not None else helps_error(FLIP, SPOKEN, 1, 1, tuple(value))
            self.assertEqual(helps_error(FLIP, SPOKEN, 1, 1, value), wanted)

    def test_for_ever(self):
        for lag in (0, 1, 50, 200):
            play = helps(FLIP, SPOKEN, 1, lag)
            self.assertEqual((len(play), helps_error(FLIP, SPOKEN, 1, lag, play)), (lag + 1, None))
        play = ((0, 1),) + ((2, 0),) * 1500
        for lag in (0, 100, 200):
            self.assertIsNone(helps_error(FLIP, SPOKEN, 1, lag, play))
            self.assertEqual(helps_error(FLIP, QUIET, 1, lag, play), None if lag == 0 else "none")


class Reach(unittest.TestCase):
    def test_lag_by_lag(self):
        found = set()
        for watching in some_watching(325, 120):
            game, wire, player = watching.game, watching.wire, watching.player
            wanted = watching.reach()
            found.add(wanted)
            self.assertEqual(reach(game, wire, player), wanted)
            paper = reach_paper(game, wire, player)
            self.assertIsNone(reach_error(game, wire, player, paper))
            self.assertEqual(paper[0], "ring" if wanted is None else "ranks")
            if wanted is None:
                self.assertIsNotNone(helps(game, wire, player, 9))
                self.assertIn(paper[2], known(game, wire, (player,), paper[1]))
                continue
            self.assertEqual(paper[1], tuple(sorted(some for some, _ in watching.table())))
            self.assertEqual({item[:2] for item in paper[2]}, watching.uneven())
            self.assertEqual(1 + max([rank for _, _, rank in paper[2]], default=-1), wanted)
            self.assertEqual([item for item in sorted(paper[2])], list(paper[2]))
            for lag in range(5):
                self.assertEqual(helps(game, wire, player, lag) is None, lag >= wanted)
        self.assertTrue({None, 0, 1, 2} <= found, found)

    def test_known_games(self):
        for name in known_names():
            game = known_game(name)
            for wire, player in itertools.product((plain_wire(game), bare_wire(game), silent_wire(game)), range(2)):
                watching = Watching(game, wire, player)
                if len(watching.uneven()) <= 1500:
                    self.assertEqual(reach(game, wire, player), watching.reach())
                    self.assertIsNone(reach_error(game, wire, player, reach_paper(game, wire, player)))

    def test_too_many(self):
        more = counting((5, 5, 5, 6, 4), (4, 4, 4, 5, 3))
        for call in (reach, reach_paper):
            too_many(self, lambda: call(more, bare_wire(more), 0))
        too_many(self, lambda: helps(more, bare_wire(more), 0, 1))
        self.assertEqual(reach_error(more, bare_wire(more), 0, ("ranks", (), ())), "first")
        self.assertEqual(helps_error(more, bare_wire(more), 0, 0, ()), "none")
        game = counting((5, 5, 5, 6, 4))
        self.assertEqual((reach(game, bare_wire(game), 0), helps(game, bare_wire(game), 0, 0)), (0, None))
        self.assertEqual(len(reach_paper(game, bare_wire(game), 0)[1]), LIMIT)

    def test_too_many_uneven_pairs_of_few_sets(self):
        raised = set()
        for last in (4, 9, 14, 19, 24, 27):
            game = hidden_chain(last)
            watching = Watching(game, silent_wire(game), 1)
            many = len(watching.uneven())
            raised.add(many > LIMIT)
            if many > LIMIT:
                for call in (reach, reach_paper):
                    too_many(self, lambda: call(game, silent_wire(game), 1))
                too_many(self, lambda: helps(game, silent_wire(game), 1, 0))
            else:
                self.assertEqual(reach(game, silent_wire(game), 1), watching.reach())
                self.assertIsNone(reach_error(game, silent_wire(game), 1, reach_paper(game, silent_wire(game), 1)))
        self.assertEqual(raised, {True, False})


def ranks_fault(watching, sets, lot):
    """What is told of ranks that have their form."""
    for things in (sets, lot):
        if any(one >= other for one, other in zip(things, things[1:])):
            return "order"
    if len({item[:2] for item in lot}) < len(lot):
        return "order"
    if watching.alone() not in sets:
        return "first"
    for k, some in enumerate(sets):
        if any(watching.after(some, letters) not in sets for letters in watching.next_heard(some)):
            return ("sets", k)
    ranks = {item[:2]: item[2] for item in lot}
    for k, (more, less, rank) in enumerate(lot):
        on = watching.uneven_behind((more, less))
        if not set(less) < set(more) or any(pair not in ranks for pair in on):
            return ("pair", k)
        if rank != max([ranks[pair] + 1 for pair in on], default=0):
            return ("pair", k)
    uneven = [(some, (state,)) for some in sets for state in some if len(some) > 1]
    return "begun" if any(pair not in ranks for pair in uneven) else None


class Ranks(unittest.TestCase):
    def test_papers_with_faults(self):
        told = set()
        things = Things(326)
        for watching in some_watching(327, 80):
            game, wire, player = watching.game, watching.wire, watching.player
            word, sets, lot = reach_paper(game, wire, player)[:3]
            if word == "ring":
                continue
            every = sorted(watching.all_states())

            def some_set():
                return as_set(things.random.sample(every, things.random.randint(1, 2)))
            values = [(sets[::-1], lot), (sets, lot[::-1]), (sets + sets[-1:], lot), (sets, lot + lot[-1:]), ((), lot),
                      (sets, ()), ((), ())]
            values += [(sets[:k] + sets[k + 1:], lot) for k in range(min(len(sets), 5))]
            values += [(sets, lot[:k] + lot[k + 1:]) for k in range(min(len(lot), 5))]
            for k in range(min(len(lot), 5)):
                more, less, rank = lot[k]
                for item in ((more, less, rank + 1), (more, less, max(rank - 1, 0)), (more, more, rank), (less, more, rank)):
                    values.append((sets, tuple(sorted({*lot[:k], *lot[k + 1:], item}))))
                values.append((sets, tuple(sorted({*lot, (more, less, rank + 1)}))))
            for _ in range(6):
                new = some_set()
                values.append((tuple(sorted({*sets, new})), lot))
                pair = (as_set({*some_set(), *new}), new)
                rank = max([dict(((a, b), c) for a, b, c in lot).get(on, -2) + 1 for on in watching.uneven_behind(pair)],
                           default=0)
                values.append((sets, tuple(sorted({*lot, (*pair, max(rank, 0))}))))
            for some, ranked in values:
                wanted = ranks_fault(watching, some, ranked)
                self.assertEqual(reach_error(game, wire, player, ("ranks", some, ranked)), wanted)
                told.add(wanted if wanted is None or isinstance(wanted, str) else wanted[0])
        self.assertEqual(told, {None, "order", "first", "sets", "pair", "begun"})

    def test_values_without_form(self):
        word, sets, lot = reach_paper(FLIP, QUIET, 1)
        bad_sets = [(), None, [(0, 0)], ((1, 0), (0, 0)), ((0, 0), (0, 0)), ((0, 2),), ((0,),), ((True, 0),), (0, 0), "ab",
                    ((0, 0), None)]
        more, less, rank = lot[0]
        bad_items = [(some, less, rank) for some in bad_sets] + [(more, some, rank) for some in bad_sets]
        bad_items += [(more, less), (more, less, rank, 0), [more, less, rank], None, (), (more, less, -1), (more, less, True),
                      (more, less, None), (more, less, "0"), (more, less, (0,))]
        values = [(word, sets[:k] + (some,) + sets[k:], lot) for k in (0, 2) for some in bad_sets]
        values += [(word, sets, lot[:k] + (item,) + lot[k:]) for k in (0, 1, 2) for item in bad_items]
        values += [(word, list(sets), lot), (word, sets, list(lot)), (word, sets), (word, sets, lot, ()), [word, sets, lot],
                   ("ring", sets, lot), ("rank", sets, lot), (None, sets, lot), (("ranks",), sets, lot), (["ranks"], sets, lot),
                   (word, None, lot), (word, sets, None), (word, sets, {})]
        for value in values + list(ODD_VALUES):
            self.assertEqual(reach_error(FLIP, QUIET, 1, value), "form", value)


class Rings(unittest.TestCase):
    def error(self, *parts):
        """What is told of a ring of these parts, by the spoken wire."""
        return reach_error(FLIP, SPOKEN, 1, ("ring",) + parts)

    def test_rings_are_rings(self):
        _, row, state, way, ring = RING
        self.assertIsNone(self.error(row, state, way, ring))
        for many in range(5):
            self.assertIsNone(self.error(row, state, ring * many, ring * (many + 1)))
            self.assertIsNone(self.error(row + ring * many, state, way, ring))
            self.assertIsNone(self.error(row, (0, 0), way, ring))

    def test_rows_that_are_not_heard(self):
        _, row, state, way, ring = RING
        for bad in [value for value in ODD_VALUES + MIXED if isinstance(value, tuple)] + [row[1:], row + (((9, 9, 9),),),
                                                                                      (((None, False, 3),),)]:
            self.assertEqual(self.error(bad, state, way, ring), "row")
        for bad in ODD_VALUES + MIXED + ((1, 1), (True, 0), (1, False), [1, 0], (0, 1), ((1, 0),), (1,), (1, 0, 0)):
            if bad != (0, 0):
                self.assertEqual(self.error(row, bad, way, ring), "row")
                self.assertEqual(self.error(row, bad, (None,), ()), "row")

    def test_ways_that_do_not_lead_on(self):
        _, row, state, way, ring = RING
        letters = ring[0]
        # The pair is even at the beginning, and behind a shown coin; nothing leads on from there.
        self.assertEqual(self.error(row[:1], (0, 0), (), ring), "way")
        self.assertEqual(self.error(row + (((1, 1, 1),),), (1, 1), (), ring), "way")
        for bad in ((((1, 1, 1),),), (letters, ((1, 1, 1),)), (((None, 0, 0),),), (((9, 9, 9),),), (None,), ([],),
                    ((None, 0, 2),), (((None, False, 2),),), (((None, 0, 2), ()),), (letters, None), (((None, 0),),)):
            self.assertEqual(self.error(row, state, bad, ring), "way", bad)
            self.assertEqual(self.error(row, state, way, bad), "round", bad)
            self.assertEqual(self.error(row, state, bad, bad), "way")
        self.assertEqual(self.error(row, state, way, ()), "round")
        # These can come behind the set known, but not behind the state.
        self.assertEqual(self.error(row, state, (((0, 1, 1),),), ring), "way")
        self.assertEqual(self.error(row, state, way, (((0, 1, 1),),)), "round")
        for value in MIXED + ODD_VALUES:
            self.assertEqual(self.error(row, state, (value,), ring), "way")
            self.assertEqual(self.error(row, state, way, (value,)), "round")
            self.assertEqual(self.error(row, state, way, ring + (value,)), "round")

    def test_a_round_has_to_come_back(self):
        kinds = set()
        for watching in some_watching(328, 120):
            game, wire, player = watching.game, watching.wire, watching.player
            paper = reach_paper(game, wire, player)
            if paper[0] != "ring":
                continue
            _, row, state, way, ring = paper
            for cut in range(len(ring)):
                pair = (known(game, wire, (player,), row), (state,))
                for letters in way:
                    pair = tuple(watching.after(some, letters) for some in pair)
                there = pair
                for letters in ring[:cut]:
                    there = tuple(watching.after(some, letters) for some in there)
                wanted = None if cut and there == pair else "round"
                self.assertEqual(reach_error(game, wire, player, paper[:4] + (ring[:cut],)), wanted)
                kinds.add(cut)
            self.assertIsNone(reach_error(game, wire, player, paper[:3] + (way + ring[:1], ring[1:] + ring[:1])))
            self.assertIsNone(reach_error(game, wire, player, paper[:3] + (way + ring, ring + ring)))
        self.assertTrue({0, 1} <= kinds, kinds)

    def test_values_without_form(self):
        for k, bad in itertools.product((1, 3, 4), ([], None, "", 0, {}, list(RING[1]))):
            self.assertEqual(reach_error(FLIP, SPOKEN, 1, RING[:k] + (bad,) + RING[k + 1:]), "form")
        for value in (RING[:4], RING + ((),), list(RING), ("rings",) + RING[1:], ("ranks",) + RING[1:], (None,) + RING[1:],
                      (["ring"],) + RING[1:]):
            self.assertEqual(reach_error(FLIP, SPOKEN, 1, value), "form")


if __name__ == "__main__":
    unittest.main()

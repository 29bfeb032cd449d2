"""Just papers, and papers that nothing lasts, with faults in each place; the parts of a rule that can be just."""

import itertools
import unittest

from knownplay.justpapers import is_just, just_paper, just_paper_error, lasting, lasting_error, lasting_paper
from knownplay.justparts import can_be_just, greatest, spilling
from knownplay.knowngames import known_game
from knownplay.knownwires import bare_wire, plain_wire, silent_wire
from knownplay.leaks import lack, leak, pairs_by_rows, pairs_by_views
from knownplay.plays import play_error
from knownplay.views import view
from knownplay.wires import heard_by, wire_without
from tests.knowing import MIXED, as_set, counting, far_from, too_many
from tests.test_leaks import BLAB, BOX, FAIR, MUTE, NO, OPEN, WHETHER, some_telling
from tests.things import ODD_VALUES, YES, Things

STILL = (2, ((2, 0),), ((None, 1, YES, (), ()), (None, 1, YES, (), ())), ((YES,), (YES,)))
DEED = (((YES, ("deed",)),),) * 2


def paper_fault(telling, player, paper):
    """What is told of a tuple of pairs of states, looked at move by move."""
    if (telling.first, telling.first) not in paper:
        return "first"
    for k, (s, t) in enumerate(paper):
        for m, n in itertools.product(telling.items(s, player), telling.items(t, player)):
            seen, heard = m[1] == n[1], m[2] == n[2]
            if seen != heard:
                return (k, m[0], n[0], "leak" if seen else "lack")
            if seen and (m[3], n[3]) not in paper:
                return (k, m[0], n[0], "out")
    return None


class Papers(unittest.TestCase):
    def test_either_a_paper_or_plays(self):
        just = 0
        things = Things(211)
        for telling in some_telling(212, 50):
            game = telling.game
            for wire in (telling.wire, plain_wire(game), silent_wire(game), bare_wire(game)):
                for player in range(game[0]):
                    paper = just_paper(game, wire, player)
                    plays = (leak(game, wire, player), lack(game, wire, player))
                    self.assertIs(is_just(game, wire, player), paper is not None)
                    self.assertEqual(paper is None, plays != (None, None))
                    if paper is None:
                        continue
                    just += 1
                    self.assertEqual(paper, pairs_by_views(game, player))
                    self.assertEqual(paper, pairs_by_rows(game, wire, player))
                    mixed = things.random.sample(paper, len(paper))
                    for value in (paper, paper[::-1], tuple(mixed), paper + paper):
                        self.assertIsNone(just_paper_error(game, wire, player, value))
        self.assertGreater(just, 60)

    def test_papers_with_faults(self):
        told = set()
        things = Things(213)
        for telling in some_telling(214, 60):
            game, wire = telling.game, telling.wire
            every = telling.all_states()
            for player in range(game[0]):
                paper = pairs_by_views(game, player)
                rows = pairs_by_rows(game, wire, player)
                values = [paper, rows, paper[::-1], tuple(itertools.product(every, repeat=2))[:400]]
                values += [paper[:k] + paper[k + 1:] for k in range(min(len(paper), 6))]
                for _ in range(6):
                    more = (things.random.choice(every), things.random.choice(every))
                    values += [paper + (more,), (more,) + rows]
                for value in values:
                    wanted = paper_fault(telling, player, value)
                    self.assertEqual(just_paper_error(game, wire, player, value), wanted)
                    told.add(wanted if wanted is None or wanted == "first" else wanted[3])
                    if wanted is None:
                        self.assertTrue(is_just(game, wire, player))
        self.assertEqual(told, {None, "first", "leak", "lack", "out"})

    def test_states_that_never_come_may_stand_in_a_paper(self):
        dead = (2, ((3, 0),), ((0, 1, YES, ((0, ("less", ("is", 1), ("cell", 0))),), (0, 1)),), ((YES,), (YES,)))
        wire = plain_wire(dead)
        paper = just_paper(dead, wire, 1)
        self.assertEqual(paper, (((0,), (0,)), ((1,), (1,))))
        self.assertIsNone(just_paper_error(dead, wire, 1, paper + (((2,), (2,)),)))
        self.assertIsNone(just_paper_error(dead, wire, 1, (((2,), (2,)),) + paper))
        self.assertEqual(just_paper_error(dead, wire, 1, paper + (((2,), (1,)),)), None)
        blab = (((YES, ("was", 0)),),) * 2
        self.assertEqual(just_paper_error(dead, blab, 1, (((0,), (0,)), ((2,), (2,)))), (0, (0, 0), (0, 0), "out"))

    def test_values_without_form(self):
        paper = just_paper(BOX, (FAIR, FAIR), 1)
        bad = [None, (), paper[0][0], paper[0][:1], paper[0] + paper[0][:1], list(paper[0]), (paper[0][0], [0, 0]),
               ((0, 2), (0, 0)), ((0, 0), (-1, 0)), ((0, 0), (0,)), ((0, 0), (0, 0, 0)), ((True, 0), (0, 0)),
               ((0, 0), (0, False)), ((0, 0), None), ("00", "00"), ((0, "0"), (0, 0)), 0, "ab", {0: 1}]
        values = [paper[:k] + (item,) + paper[k:] for k in (0, 3, len(paper)) for item in bad]
        for value in values + [list(paper), dict(paper), None, "", 0] + list(ODD_VALUES) + list(MIXED):
            wanted = "first" if value == () else "form"
            self.assertEqual(just_paper_error(BOX, (FAIR, FAIR), 1, value), wanted, value)

    def test_too_many(self):
        counter = tuple((None, 2, YES, ((c, ("sum", ("cell", c), ("draw",))),), ()) for c in range(3))
        game = (2, ((3, 0), (5, 0), (4, 0)), counter, ((YES,) * 3, (NO,) * 3))
        for call in (just_paper, is_just):
            # By views of 1 there are too many; by rows of 0, to whom all is shown and nothing told.
            too_many(self, lambda: call(game, bare_wire(game), 1))
            too_many(self, lambda: call(game, silent_wire(game), 0))
            self.assertIn(call(game, bare_wire(game), 0), (True, tuple((s, s) for s in telling_states(game))))


def telling_states(game):
    """All states of a game, ascending."""
    return list(itertools.product(*[range(size) for size, _ in game[1]]))


class Lasting(unittest.TestCase):
    def triples(self, telling, player):
        """The triples of a state, the set by views and the set by rows: of each how few moves lead there."""
        def gone(some, item, place):
            return as_set({behind[3] for state in some for behind in telling.items(state, player)
                           if behind[place] == item})

        def behind(triple):
            return [(item[3], gone(triple[1], item[1], 1), gone(triple[2], item[2], 2))
                    for item in telling.items(triple[0], player)]
        return far_from((telling.first, telling.alone(), telling.alone()), behind)

    def test_as_short_as_can_be(self):
        kinds = []
        for telling in some_telling(221, 50):
            game, wire = telling.game, telling.wire
            for player in range(game[0]):
                triples = self.triples(telling, player)
                unlike = [many for (_, some, other), many in triples.items() if some != other]
                play, paper = lasting(game, wire, player), lasting_paper(game, wire, player)
                kinds.append((is_just(game, wire, player), play is None))
                if unlike:
                    self.assertEqual((play_error(game, play), len(play), paper), (None, min(unlike), None))
                    self.check_play(telling, player, play)
                    continue
                self.assertIsNone(play)
                self.assertEqual(paper, tuple(sorted({(state, some) for state, some, _ in triples})))
                for value in (paper, paper[::-1], paper + paper[:1]):
                    self.assertIsNone(lasting_error(game, wire, player, value))
        for kind in ((True, True), (False, True), (False, False)):
            self.assertGreater(kinds.count(kind), 4, kind)
        self.assertNotIn((True, False), kinds)

    def check_play(self, telling, player, play):
        """Checks by all plays of as many ticks that the two sets behind play are unlike."""
        plays = telling.plays_heard(len(play))
        if plays:
            seen, row = view(telling.game, player, play), heard_by(telling.game, telling.wire, player, play)
            by_views = {come[-1] for one, _, come in plays if view(telling.game, player, one) == seen}
            by_rows = {come[-1] for one, _, come in plays if heard_by(telling.game, telling.wire, player, one) == row}
            self.assertNotEqual(by_views, by_rows)

    def fault(self, telling, player, paper):
        """What is told of a tuple of pairs of a state and a set."""
        if (telling.first, telling.alone()) not in paper:
            return "first"
        for k, (s, lot) in enumerate(paper):
            for move, item, letter, behind in telling.items(s, player):
                told = [one for state in lot for one in telling.items(state, player)]
                by_views = {one[3] for one in told if one[1] == item}
                if by_views != {one[3] for one in told if one[2] == letter}:
                    return (k, move, "unlike")
                if (behind, as_set(by_views)) not in paper:
                    return (k, move, "out")
        return None

    def test_papers_with_faults(self):
        told = set()
        things = Things(222)
        for telling in some_telling(223, 50):
            game, wire = telling.game, telling.wire
            every = telling.all_states()
            for player in range(game[0]):
                lots = tuple(sorted({(state, some) for state, some, _ in self.triples(telling, player)}))
                values = [lots, lots[::-1], ()] + [lots[:k] + lots[k + 1:] for k in range(min(len(lots), 5))]
                for _ in range(5):
                    some = as_set(things.random.sample(every, things.random.randint(1, 3)))
                    values += [lots + ((things.random.choice(every), some),), ((some[0], some),) + lots]
                for value in values:
                    wanted = self.fault(telling, player, value)
                    self.assertEqual(lasting_error(game, wire, player, value), wanted)
                    told.add(wanted if wanted is None or wanted == "first" else wanted[2])
                    if wanted is None:
                        self.assertIsNone(lasting(game, wire, player))
        self.assertEqual(told, {None, "first", "unlike", "out"})

    def test_a_wire_that_leaks_and_tells_nothing_that_lasts(self):
        self.assertIsNotNone(leak(STILL, DEED, 0))
        self.assertIsNone(lasting(STILL, DEED, 0))
        paper = lasting_paper(STILL, DEED, 0)
        self.assertIsNone(lasting_error(STILL, DEED, 0, paper))
        # The state need not be in its set; but then what it makes may be out.
        self.assertIsNone(lasting_error(STILL, DEED, 0, paper + (((1,), ((1,),)),)))
        self.assertEqual(lasting_error(STILL, DEED, 0, paper + (((1,), ((0,),)),)), (1, (0, 0), "unlike"))

    def test_values_without_form(self):
        paper = lasting_paper(BOX, (FAIR, FAIR), 1)
        bad = [None, (), paper[0][:1], paper[0] + ((),), list(paper[0]), ((0, 0), ()), ((0, 0), [(0, 0)]), ((0, 0), (0, 0)),
               ((0, 0), ((1, 0), (0, 0))), ((0, 0), ((0, 0), (0, 0))), ((0, 0), ((0, 2),)), ((0, 2), ((0, 0),)),
               ((0, False), ((0, 0),)), ((0, 0), ((True, 0),)), (0, ((0, 0),)), ((0, 0), None), ((0,), ((0, 0),)), 7, "ab"]
        values = [paper[:k] + (item,) + paper[k:] for k in (0, 3, len(paper)) for item in bad]
        for value in values + [list(paper), None, "", 0, dict(paper)] + list(ODD_VALUES) + list(MIXED):
            wanted = "first" if value == () else "form"
            self.assertEqual(lasting_error(BOX, (FAIR, FAIR), 1, value), wanted, value)

    def test_too_many(self):
        game = counting((5, 5, 5, 6, 4))
        self.assertIsNone(lasting(game, bare_wire(game), 0))
        self.assertEqual(len(lasting_paper(game, bare_wire(game), 0)), 3000)
        more = counting((5, 5, 5, 6, 4), (4, 4, 4, 5, 3))
        for call in (lasting, lasting_paper):
            too_many(self, lambda: call(more, bare_wire(more), 0))
            # What lasts is found at the first tick, and yet there are too many.
            too_many(self, lambda: call(more, silent_wire(more), 0))


class Parts(unittest.TestCase):
    def test_against_all_lots_of_entries(self):
        kinds = set()
        things = Things(231)
        for telling in some_telling(232, 40):
            game = telling.game
            wire = things.tiny_wire(game, 4)
            for player, rule in enumerate(wire):
                places = range(len(rule))
                leaks = tuple(k for k in places
                              if leak(game, wire_without(wire, player, tuple(j for j in places if j != k)), player))
                self.assertEqual(spilling(game, wire, player), leaks)
                self.assertEqual(greatest(game, wire, player), wire_without(wire, player, leaks))
                just = False
                for many in range(len(rule) + 1):
                    for some in itertools.combinations(places, many):
                        part = wire_without(wire, player, some)
                        leaking = leak(game, part, player) is not None
                        self.assertEqual(leaking, not set(leaks) <= set(some))
                        just = just or is_just(game, part, player)
                self.assertIs(can_be_just(game, wire, player), just)
                kinds.add((bool(leaks), len(leaks) == len(rule), just))
        self.assertGreater(len(kinds), 5)

    def test_too_many(self):
        counter = tuple((None, 2, YES, ((c, ("sum", ("cell", c), ("draw",))),), ()) for c in range(3))
        game = (2, ((3, 0), (5, 0), (4, 0)), counter, ((YES,) * 3, (NO,) * 3))
        for call in (spilling, greatest, can_be_just):
            for wire in (bare_wire(game), silent_wire(game)):
                too_many(self, lambda: call(game, wire, 1))
        # By views of 0 there are few pairs, by rows of the greatest rule too many.
        self.assertEqual((spilling(game, silent_wire(game), 0), greatest(game, silent_wire(game), 0)), ((), ((), ())))
        too_many(self, lambda: can_be_just(game, silent_wire(game), 0))
        self.assertEqual(spilling(game, bare_wire(game), 0), ())
        self.assertIs(can_be_just(game, bare_wire(game), 0), True)

    def test_of_a_known_game(self):
        coin = known_game("coin")
        self.assertEqual(spilling(coin, bare_wire(coin), 0), (0,))
        self.assertEqual(spilling(coin, bare_wire(coin), 1), (0, 1))
        self.assertEqual(spilling(coin, plain_wire(coin), 1), ())
        self.assertIs(can_be_just(coin, plain_wire(coin), 1), True)
        self.assertIs(can_be_just(coin, bare_wire(coin), 1), False)
        mix = ((YES, ("cell", 0)), WHETHER, (OPEN, ("cell", 0)))
        self.assertEqual(spilling(BOX, (mix, mix), 0), (0,))
        self.assertEqual(spilling(BOX, (BLAB, MUTE), 0), (0,))
        self.assertEqual(spilling(BOX, (BLAB, MUTE), 1), ())


if __name__ == "__main__":
    unittest.main()

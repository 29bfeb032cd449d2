"""Whether a wire is as good as another one, closed lots that show it, and how few entries are enough."""

import itertools
import unittest

from knownplay.knowngames import known_game, known_names
from knownplay.knownwires import bare_wire, plain_wire, silent_wire
from knownplay.likeness import as_good, as_good_error, cheaper, good_paper, good_paper_error
from knownplay.plays import play_error
from knownplay.sets import known, sure
from knownplay.wires import heard, wire_without
from tests.knowing import LIMIT, MIXED, Knowing, as_set, counting, far_from, some_knowing, surer, too_many
from tests.test_sets import FLIP, QUIET, SPOKEN
from tests.things import ODD_VALUES, Things


class Likeness:
    """Two wires and one player."""

    def __init__(self, game, wire, other, player):
        self.game, self.wire, self.other, self.player = game, wire, other, player
        self.one, self.its_like = Knowing(game, wire, (player,)), Knowing(game, other, (player,))
        self.first = (self.one.first, self.one.alone(), self.one.alone())

    def all_behind(self, triple):
        """The triples behind each move from a triple."""
        both = zip(self.one.moves_heard(triple[0]), self.its_like.moves_heard(triple[0]))
        return [(behind, self.one.after(triple[1], letters), self.its_like.after(triple[2], told))
                for (_, letters, behind), (_, told, _) in both]

    def triples(self):
        """A dict of all triples that come: of each how few moves lead there."""
        return far_from(self.first, self.all_behind)

    def arguments(self):
        """What the functions of the package are called with."""
        return (self.game, self.wire, self.other, self.player)


def some_likeness(seed, many):
    """So many pairs of wires of tiny games."""
    things = Things(seed)
    found = [Likeness(FLIP, wire, other, player) for wire, other in itertools.product((QUIET, SPOKEN, ((), ())), repeat=2)
             for player in (0, 1)]
    for knowing in some_knowing(seed, many, 60):
        other = things.tiny_wire(knowing.game)
        player = things.random.randrange(knowing.game[0])
        rule = knowing.wire[player]
        if things.random.random() < 0.4 and rule:
            other = wire_without(knowing.wire, player, (things.random.randrange(len(rule)),))
        found.append(Likeness(knowing.game, knowing.wire, other, player))
        found.append(Likeness(knowing.game, other, knowing.wire, player))
    return found


class AsGood(unittest.TestCase):
    def test_as_short_as_can_be(self):
        lengths = set()
        for like in some_likeness(331, 120):
            triples = like.triples()
            wanted = min([many for (_, some, other), many in triples.items() if surer(other, some)], default=None)
            lengths.add(wanted)
            play, paper = as_good(*like.arguments()), good_paper(*like.arguments())
            if wanted is None:
                self.assertIsNone(play)
                self.assertEqual(paper, tuple(sorted(triples)))
                self.assertIsNone(good_paper_error(*like.arguments(), paper))
                continue
            self.assertEqual((len(play), play_error(like.game, play), paper), (wanted, None, None))
            self.assertIsNone(as_good_error(*like.arguments(), play))
            self.assertLess(wanted, len(triples))
        self.assertTrue({None, 1, 2, 3} <= lengths, lengths)

    def test_all_short_plays(self):
        kinds = set()
        for like in some_likeness(332, 30):
            for ticks in range(4):
                for play, _, _ in like.one.plays_heard(ticks)[:20]:
                    ears = (like.player,)
                    sets = [known(like.game, wire, ears, heard(like.game, wire, ears, play))
                            for wire in (like.wire, like.other)]
                    wanted = None if surer(sets[1], sets[0]) else "none"
                    self.assertEqual(as_good_error(*like.arguments(), play), wanted)
                    kinds.add(wanted)
                    both = zip(sure(like.game, sets[0]), sure(like.game, sets[1]))
                    self.assertTrue(all(None in pair or pair[0] == pair[1] for pair in both))
        self.assertEqual(kinds, {None, "none"})

    def test_values_that_are_no_plays(self):
        for value in ODD_VALUES + MIXED + (((0, 2),), ((0, True),), [(2, 0)], ((3, 0),)):
            if play_error(FLIP, value) is not None:
                self.assertEqual(as_good_error(FLIP, QUIET, SPOKEN, 1, value), "form")
        # Behind a long play the coin that was shown, and behind that a wait, by which quiet lets go of it.
        shown = ((0, 1),) * 1500 + ((1, 0), (2, 0))
        self.assertEqual(as_good_error(FLIP, QUIET, SPOKEN, 1, shown), "none")
        self.assertEqual(as_good_error(FLIP, QUIET, SPOKEN, 1, ((2, 0),) * 1500), None)
        self.assertEqual(as_good_error(FLIP, SPOKEN, QUIET, 1, ((2, 0),) * 1500), "none")

    def test_known_wires_are_as_good_as_less(self):
        for name in known_names():
            game = known_game(name)
            for player in range(2):
                for wire in (plain_wire(game), bare_wire(game), silent_wire(game)):
                    self.assertIsNone(as_good(game, wire, wire, player))
                    self.assertIsNone(as_good(game, bare_wire(game), wire, player))
                    self.assertIsNone(as_good(game, wire, silent_wire(game), player))

    def test_too_many(self):
        game, more = counting((5, 5, 5, 6, 4)), counting((5, 5, 5, 6, 4), (4, 4, 4, 5, 3))
        self.assertIsNone(as_good(game, bare_wire(game), bare_wire(game), 0))
        self.assertEqual(len(good_paper(game, bare_wire(game), bare_wire(game), 0)), LIMIT)
        for call in (as_good, good_paper):
            for wire in (bare_wire(more), silent_wire(more)):
                too_many(self, lambda: call(more, wire, bare_wire(more), 0))
        self.assertEqual(as_good_error(more, silent_wire(more), bare_wire(more), 0, ((0, 0), (0, 0))), None)
        self.assertEqual(good_paper_error(more, silent_wire(more), bare_wire(more), 0, ()), "begun")
        too_many(self, lambda: cheaper(more, bare_wire(more), 0))


class Papers(unittest.TestCase):
    def fault(self, like, paper):
        """What is told of a tuple of triples that have their form."""
        if any(one >= other for one, other in zip(paper, paper[1:])):
            return "order"
        if like.first not in paper:
            return "begun"
        for k, triple in enumerate(paper):
            if surer(triple[2], triple[1]) or any(behind not in paper for behind in like.all_behind(triple)):
                return ("triple", k)
        return None

    def test_papers_with_faults(self):
        things = Things(333)
        told = set()
        for like in some_likeness(334, 80):
            every = like.one.all_states()
            paper = tuple(sorted(like.triples()))
            values = [paper, paper[::-1], paper + paper[-1:], ()]
            values += [paper[:k] + paper[k + 1:] for k in range(min(8, len(paper)))]
            for _ in range(8):
                sets = [as_set(things.random.sample(every, things.random.randint(1, 2))) for _ in range(2)]
                triple = (things.random.choice(every), *sets)
                values += [tuple(sorted({*paper, triple})), paper + (triple,)]
            for value in values:
                wanted = self.fault(like, value)
                self.assertEqual(good_paper_error(*like.arguments(), value), wanted)
                told.add(wanted if wanted is None or isinstance(wanted, str) else wanted[0])
                if wanted is None:
                    self.assertIsNone(as_good(*like.arguments()))
        self.assertEqual(told, {None, "order", "begun", "triple"})

    def test_values_without_form(self):
        paper = good_paper(FLIP, SPOKEN, QUIET, 1)
        some = ((0, 0), (1, 0))
        bad = [None, (), ((0, 0), some), ((0, 0), some, some, some), [(0, 0), some, some], ((0, 0), list(some), some),
               ((0, 0), some, []), ((0, 0), (), some), ((0, 0), some, ()), ((0, 2), some, some), ((0,), some, some),
               ((0, 0), some[::-1], some), ((0, 0), some, some + some[-1:]), ((True, 0), some, some), (None, some, some),
               ((0, 0), ((0, False),), some), ((0, 0), some, ((0, 0), (1, 2))), ((0, 0), (0, 0), some), 0, "abc"]
        for k in (0, 2, len(paper)):
            for triple in bad:
                value = paper[:k] + (triple,) + paper[k:]
                self.assertEqual(good_paper_error(FLIP, SPOKEN, QUIET, 1, value), "form", triple)
        for value in (list(paper), paper[0], dict.fromkeys(paper)) + ODD_VALUES + MIXED:
            wanted = "begun" if value == () and isinstance(value, tuple) else "form"
            self.assertEqual(good_paper_error(FLIP, SPOKEN, QUIET, 1, value), wanted)


class Cheaper(unittest.TestCase):
    def test_against_all_lots_of_entries(self):
        sizes = set()
        things = Things(335)
        for knowing in some_knowing(336, 60, 60):
            game, wire = knowing.game, things.tiny_wire(knowing.game, 4)
            for player, rule in enumerate(wire):
                if Knowing(game, wire, (player,)).table(60) is None:
                    continue
                enough = []
                for many in range(len(rule) + 1):
                    for some in itertools.combinations(range(len(rule)), many):
                        rest = tuple(k for k in range(len(rule)) if k not in some)
                        like = Likeness(game, wire_without(wire, player, rest), wire, player)
                        if not any(surer(other, its_like) for _, its_like, other in like.triples()):
                            enough.append((many, some))
                self.assertEqual(cheaper(game, wire, player), min(enough)[1])
                sizes.add((len(rule), min(enough)[0]))
        self.assertTrue({(0, 0), (1, 0), (1, 1), (4, 1), (4, 2)} <= sizes, sizes)

    def test_of_entries_that_say_the_same(self):
        twice = (QUIET[0] * 2, QUIET[1] + QUIET[1])
        self.assertEqual(cheaper(FLIP, twice, 0), (0, 1))
        self.assertEqual(cheaper(FLIP, twice, 1), (0,))
        self.assertEqual(cheaper(FLIP, ((), ()), 1), ())

    def test_too_many_where_fewer_entries_are_tried(self):
        # All entries have just 3000 triples, but none at all, which is tried first, has more.
        game = counting((5, 5, 5, 6, 4))
        self.assertIsNone(as_good(game, bare_wire(game), bare_wire(game), 0))
        too_many(self, lambda: cheaper(game, bare_wire(game), 0))
        # Here the first lot that is tried is enough, and has few triples.
        quiet = (bare_wire(game)[0], ())
        self.assertEqual(cheaper(counting((3, 3)), ((), ()), 0), ())
        too_many(self, lambda: cheaper(game, quiet, 0))


if __name__ == "__main__":
    unittest.main()

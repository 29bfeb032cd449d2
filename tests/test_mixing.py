"""Mixed rings and sortings, against all rings and all histories; copies of deeds, two and more."""

import itertools
import unittest

from knownplay.errors import Unfit
from knownplay.histories import history_error, ring_error, ring_of
from knownplay.mixing import bad_history, mixed_error, mixed_ring, ordered, shortened, sorting, sorting_error
from tests.knowing import MIXED
from tests.test_leanings import chosen
from tests.things import ODD_VALUES, YES, Things
from tests.weaving import C0, COPY, IDLE, LIFT, OWNERS, PUT, STORE, following, goes_round, histories, links_of
from tests.weaving import mixed_rings, pieces_of, some_history, some_woven

CALM = STORE[:2] + ((LIFT, COPY, IDLE),) + STORE[3:]


def some_many(seed, many, cells=3, most=4):
    """So many games with owners and deeds, copies among them, and the pieces of these."""
    found = []
    for game, owners, some in some_woven(seed, many, cells, most):
        deeds = tuple(deed for deed, _ in some)
        found.append((game, owners, deeds, [pieces_of(owners, game[2][deed]) for deed in deeds]))
    return found


def deed_at(*cells):
    """A deed that sets some cells."""
    return (None, 1, YES, tuple((cell, ("is", 1)) for cell in sorted(cells)), ())


def reading(asks, sets):
    """A deed that asks some cells, and sets others, each to what all that it asks make together."""
    term = ("is", 0)
    for cell in asks:
        term = ("sum", ("cell", cell), term)
    return (None, 1, YES, tuple((cell, term) for cell in sorted(sets)), ())


class MixedRings(unittest.TestCase):
    def test_exactly_one_of_a_ring_and_a_sorting(self):
        rings, sortings = 0, 0
        for game, owners, many, cut in some_many(571, 250):
            every = mixed_rings(cut)
            ring, lots, history = (call(game, owners, many) for call in (mixed_ring, sorting, bad_history))
            self.assertEqual((ring is None, lots is None, history is None), (not every, bool(every), not every))
            if every:
                least = ring.index(min(ring))
                self.assertIn(ring[least:] + ring[:least], every)
                self.assertIsNone(mixed_error(game, owners, many, ring))
                some = tuple((deed, 0) for deed in many)
                self.assertIsNone(history_error(game, owners, some, history))
                self.assertIsNotNone(ring_of(game, owners, some, history))
                rings += 1
            else:
                self.assertIsNone(sorting_error(game, owners, many, lots))
                self.assertTrue(self.is_sorting(links_of(cut), lots))
                sortings += 1
        self.assertGreater(min(rings, sortings), 30)

    def is_sorting(self, ends, lots):
        """Whether lots are a sorting of links with these ends."""
        once = sorted(link for lot in lots for link in lot) == sorted(ends)
        return once and all(len({link[0] for link in lot}) == 1 for lot in lots) and not goes_round(ends, lots)

    def test_against_all_histories(self):
        for game, owners, many, cut in some_many(572, 150, 3, 3):
            every = list(itertools.islice(histories(cut), 1000))
            if len(every) < 1000:
                bad = [history for history in every if ring_of(game, owners, tuple((deed, 0) for deed in many),
                                                               history)]
                self.assertEqual(bad_history(game, owners, many) is None, not bad)
                if bad:
                    self.assertIn(bad_history(game, owners, many), bad)

    def test_no_drawn_history_of_a_sorting_has_a_ring(self):
        things, seen = Things(573), 0
        for game, owners, many, cut in some_many(574, 120, 5, 12):
            if sorting(game, owners, many) is not None and len(many) > 4:
                for _ in range(5):
                    history = some_history(things.random, cut)
                    self.assertIsNone(ring_of(game, owners, tuple((deed, 0) for deed in many), history))
                    seen += 1
        self.assertGreater(seen, 50)

    def test_rings_of_many_occurrences_are_found_and_cut_short(self):
        longest = 0
        for game, owners, many, _ in some_many(575, 200, 6, 16):
            ring = mixed_ring(game, owners, many)
            if ring is None:
                self.assertIsNone(sorting_error(game, owners, many, sorting(game, owners, many)))
                continue
            self.assertIsNone(mixed_error(game, owners, many, ring))
            some, history = tuple((deed, 0) for deed in many), bad_history(game, owners, many)
            self.assertIsNone(history_error(game, owners, some, history))
            self.assertIsNone(ring_error(game, owners, some, history, ring_of(game, owners, some, history)))
            longest = max(longest, len(ring))
        self.assertGreaterEqual(longest, 3)

    def test_long_rings(self):
        # Each deed sets two cells at two places, next to next around: the ring goes through all of them.
        cells = ((2, 0),) * 6
        around = tuple(deed_at(k, (k + 1) % 6) for k in range(6))
        game = (2, cells, around, ((YES,) * 6,) * 2)
        owners = tuple(range(6))
        many = tuple(range(6))
        ring = mixed_ring(game, owners, many)
        self.assertEqual(sorted(k for k, _, _ in ring), list(range(6)))
        self.assertIsNone(mixed_error(game, owners, many, ring))
        self.assertIsNone(sorting(game, owners, many))
        history = bad_history(game, owners, many)
        self.assertEqual(len(ring_of(game, owners, tuple((k, 0) for k in many), history)), 6)
        # Without one of them nothing goes round.
        self.assertIsNone(mixed_ring(game, owners, many[1:]))
        lots = sorting(game, owners, many[1:])
        self.assertIsNone(sorting_error(game, owners, many[1:], lots))
        self.assertEqual(len(lots), 9)

    def test_a_way_that_comes_to_one_occurrence_twice(self):
        # The deed 1 has five pieces. Both others ask the cell 0 at its first one, and set what is not the same at its last
        # one: so they meet it alone, and the shortest way between its ends, by the deed 2, makes no ring as it stands.
        cells, sights = ((2, 0),) * 6, ((YES,) * 6,) * 2
        game = (2, cells, (reading((0,), (4,)), deed_at(0, 1, 2, 3, 4, 5), reading((0,), (5,))), sights)
        owners = (0, 1, 2, 3, 4, 4)
        for many in itertools.permutations((0, 1, 2)):
            ring = mixed_ring(game, owners, many)
            self.assertIsNone(mixed_error(game, owners, many, ring), many)
            self.assertEqual(len(ring), 2)
            history = bad_history(game, owners, many)
            self.assertIsNotNone(ring_of(game, owners, tuple((deed, 0) for deed in many), history))
        self.assertEqual(self.rings_of(game, owners, (0, 1, 2)), {(0, 1), (1, 2)})

    def rings_of(self, game, owners, many):
        """The occurrences of all mixed rings."""
        return {tuple(sorted(k for k, _, _ in ring))
                for ring in mixed_rings([pieces_of(owners, game[2][deed]) for deed in many])}

    def test_ways_are_cut_short(self):
        # Ways by hand, as pieces (occurrence, piece): one comes to the occurrence 0 three times, others twice.
        ways = ([(0, 0), (1, 0), (1, 1), (0, 4), (2, 0), (2, 1), (0, 2), (3, 0), (3, 1)],
                [(0, 0), (1, 0), (1, 1), (0, 1), (2, 0), (2, 1)],
                [(0, 0), (0, 1), (1, 0), (1, 1), (0, 3), (0, 2), (2, 0), (2, 1)])
        for way, turn in [(way, turn) for way in ways for turn in range(len(way))]:
            for row in (way[turn:] + way[:turn], (way[turn:] + way[:turn])[::-1]):
                short = shortened(row)
                places = [piece[0] for piece in short]
                self.assertEqual(len(set(short)), len(short))
                self.assertEqual(sum(one != other for one, other in zip(places, places[1:] + places[:1])), 2)
                for (k, p), (m, q) in zip(short, short[1:] + short[:1]):
                    self.assertTrue(k != m or abs(p - q) == 1)

    def test_copies(self):
        self.assertIsNotNone(mixed_ring(STORE, OWNERS, (0, 0)))
        for many in ((0,), (0, 1, 3), (1, 1), (3, 3, 3), (4,) * 16, (1,) * 16):
            self.assertIsNone(mixed_ring(STORE, OWNERS, many))
        self.assertIsNotNone(mixed_ring(STORE, OWNERS, (4,) * 14 + (0, 0)))
        # Pieces of one place alone: copies meet, and nothing is mixed.
        self.assertIsNone(mixed_ring(STORE, (0, 0, 0), (0, 1, 2, 3, 4) * 3))
        self.assertEqual(len(sorting(STORE, (0, 0, 0), (0,) * 16)), 1)


class Judges(unittest.TestCase):
    def test_mixed_errors_of_all_rows(self):
        for game, owners, many, cut in some_many(576, 80, 3, 3):
            every = [(k, a, b) for k in range(len(cut)) for a in range(len(cut[k])) for b in range(len(cut[k]))]
            rings = set(mixed_rings(cut))
            for row in itertools.product(every, repeat=2):
                error = mixed_error(game, owners, many, row)
                if row[0][0] == row[1][0]:
                    self.assertEqual(error, "form")
                    continue
                meets = [k for k in range(2) if not self.meets(cut, row[k], row[1 - k])]
                plain = all(a == b for _, a, b in row)
                self.assertEqual(error, ("meets", meets[0]) if meets else "plain" if plain else None)
                self.assertEqual(error is None, row in rings or row[::-1] in rings)

    def meets(self, cut, one, other):
        """Whether the last piece of one meets the first piece of the other."""
        (shard, asks, sets), (its_shard, its_asks, its_sets) = cut[one[0]][one[2]], cut[other[0]][other[1]]
        return shard == its_shard and bool(set(sets) & set(its_asks + its_sets) or set(its_sets) & set(asks))

    def test_mixed_form(self):
        bad = lambda value: mixed_error(STORE, OWNERS, (0, 0, 3), value)
        self.assertIsNone(bad(((0, 1, 0), (1, 0, 1))))
        for value in ODD_VALUES + MIXED + ([(0, 1, 0), (1, 0, 1)], ((0, 1, 0),), ((0, 1, 0), (0, 0, 1)),
                                           ((0, 1, 0), (1, 0, 2)),
                                           ((0, 1, 0), (1, 0)), ((0, 1, 0), (3, 0, 1)), ((0, 1, 0), (1, False, 1)),
                                           ((0, 1, 0), [1, 0, 1]),
                                           ((0, 1, 0), (True, 0, 1)), ((0, 1, 0), (-1, 0, 1)), ((0, 1, 0), (1, 0, -1)),
                                           ((0, 1, 0), (1, 0, 1), None), ((0, 1, 0), (1, 0, 1), (2, 0, 2)),
                                           ((0, 1, 0), (1, 0, 1, 0)), ((0, 1, 0), (1, 0, 1, 0, 0))):
            self.assertEqual(bad(value), "form", value)
        self.assertEqual(bad(((0, 1, 0), (1, 0, 1), (2, 0, 1))), ("meets", 1))
        self.assertEqual(bad(((0, 1, 0), (2, 0, 1), (1, 0, 1))), ("meets", 1))
        self.assertEqual(bad(((0, 0, 0), (2, 0, 0), (1, 0, 0))), "plain")
        self.assertIsNone(bad(((0, 1, 0), (2, 0, 0), (1, 0, 1))))

    def test_all_ways_to_put_few_links_into_lots(self):
        seen = set()
        for game, owners, many, cut in some_many(577, 150, 3, 3):
            ends = links_of(cut)
            if not 1 <= len(ends) <= 4:
                continue
            for places in itertools.product(range(len(ends)), repeat=len(ends)):
                lots = {}
                for link, place in zip(sorted(ends), places):
                    lots.setdefault(place, []).append(link)
                lots = tuple(tuple(lot) for _, lot in sorted(lots.items()))
                mixed = [k for k, lot in enumerate(lots) if len({link[0] for link in lot}) > 1]
                wanted = ("mixed", mixed[0]) if mixed else "round" if goes_round(ends, lots) else None
                self.assertEqual(sorting_error(game, owners, many, lots), wanted, lots)
                seen.add(wanted and wanted[0])
        self.assertEqual(seen, {None, "mixed", "r"})

    def test_sorting_form(self):
        links = (("meet", 0, 0, 1, 0), ("meet", 0, 1, 1, 1), ("own", 0, 0), ("own", 1, 0))
        bad = lambda *value: sorting_error(STORE, OWNERS, (0, 0), value)
        self.assertEqual(bad(links[:1], links[1:2], links[2:3], links[3:]), "round")
        for value in (((),), (list(links[:1]),), (links[::-1],), (links[:1] * 2,), (("own", 0, 1),),
                      ((("own", 0, 1),),),
                      ((("own", 0, False),),), ((("meet", 1, 0, 0, 0),),), ((("meet", 0, 0, 1, 1),),),
                      ((("own", 2, 0),),),
                      ((["own", 0, 0],),), ((("own", 0),),), ((("meet", 0, 0, 1),),), ((("meet", 0, 0, True, 0),),),
                      ((None,),),
                      (links, None), ((("owns", 0, 0),),), (((0, 0, 0),),), ((("own", 0, 0), ("own", 0, 0)),),
                      ((("own", True, 0),),), ((([], 0, 0),),), ((("meet", 0, 0, 1, 0, 0),),)):
            self.assertEqual(bad(*value), "form", value)
        for value in ODD_VALUES + MIXED:
            self.assertEqual(sorting_error(STORE, OWNERS, (0, 0), value), ("link", links[0]) if value == () else "form",
                             value)
            self.assertEqual(sorting_error(STORE, OWNERS, (1,), value), None if value == () else "form", value)

    def test_links_that_do_not_stand_in_just_one_lot(self):
        links = (("meet", 0, 0, 1, 0), ("meet", 0, 1, 1, 1), ("own", 0, 0), ("own", 1, 0))
        bad = lambda *value: sorting_error(STORE, OWNERS, (0, 0), value)
        for k, link in enumerate(links):
            self.assertEqual(bad(links[:k] + links[k + 1:]), ("link", link))
            self.assertEqual(bad(links, (link,)), ("link", link))
        self.assertEqual(bad(links[:2], links[1:]), ("link", links[1]))
        self.assertEqual(bad(links[2:], links[2:]), ("link", links[0]))
        # Then the first lot of both words, and then a round.
        self.assertEqual(bad(links), ("mixed", 0))
        self.assertEqual(bad(links[:1], links[1:]), ("mixed", 1))
        self.assertEqual(bad(links[1:2], links[:1], links[2:]), "round")

    def test_rounds_of_unlike_lots_alone(self):
        # Three copies of one piece meet each other: in one lot nothing goes round, in three all does.
        links = tuple(("meet", k, 0, m, 0) for k, m in ((0, 1), (0, 2), (1, 2)))
        bad = lambda *value: sorting_error(STORE, OWNERS, (1, 1, 1), value)
        self.assertEqual(sorting(STORE, OWNERS, (1, 1, 1)), (links,))
        self.assertIsNone(bad(links))
        self.assertEqual(bad(links[:1], links[1:2], links[2:]), "round")
        self.assertEqual(bad(links[:2], links[2:]), "round")
        self.assertIsNone(sorting_error(STORE, OWNERS, (1, 1), (links[:1],)))

    def test_deeds_that_are_not_cut(self):
        for call in (mixed_ring, bad_history, sorting):
            with self.assertRaises(Unfit):
                call(STORE, OWNERS, (0, 2))
        for call in (mixed_error, sorting_error):
            with self.assertRaises(Unfit):
                call(STORE, OWNERS, (2,), None)
        with self.assertRaises(Unfit):
            ordered(STORE, OWNERS)


class AnyNumber(unittest.TestCase):
    def test_two_copies_are_enough(self):
        kinds = []
        for game, owners, _, _ in some_many(578, 150):
            deeds = range(len(game[2]))
            told = ordered(game, owners)
            self.assertEqual(told, sorting(game, owners, tuple(deed for deed in deeds for _ in range(2))) is not None)
            self.assertEqual(told, mixed_ring(game, owners, tuple(deed for deed in deeds for _ in range(3))) is None)
            kinds.append(told)
        self.assertGreater(min(kinds.count(True), kinds.count(False)), 30)

    def test_three_copies_where_two_would_do(self):
        for game, owners, _, _ in some_many(579, 40, 3, 3):
            if len(game[2]) == 1:
                cut = [pieces_of(owners, game[2][0])] * 3
                if sum(map(len, cut)) <= 6:
                    bad = [history for history in histories(cut) if self.has_ring(following(cut, history))]
                    self.assertEqual(ordered(game, owners), not bad)

    def has_ring(self, pairs):
        """Whether some occurrences follow one another around."""
        return any(all((order[i], order[j]) in pairs for i, j in zip(range(many), list(range(1, many)) + [0]))
                   for many in (2, 3) for order in itertools.permutations(range(3), many))

    def test_a_deed_two_of_whose_pieces_set_cells_is_never_ordered(self):
        game = (2, ((2, 0),) * 2, (deed_at(0, 1),), ((YES,) * 2,) * 2)
        self.assertEqual((ordered(game, (0, 1)), ordered(game, (1, 1))), (False, True))
        # One that reads at one place and sets at another one is, until somebody sets what it reads: two and that make a ring.
        reader, writer = reading((0,), (1,)), deed_at(0)
        self.assertTrue(ordered(game[:2] + ((reader,),) + game[3:], (0, 1)))
        self.assertFalse(ordered(game[:2] + ((reader, writer),) + game[3:], (0, 1)))
        self.assertIsNone(mixed_ring(game[:2] + ((reader, writer),) + game[3:], (0, 1), (0, 1, 1)))
        self.assertTrue(ordered(CALM, OWNERS))

    def test_eight_deeds(self):
        cells = ((6, 0),) * 6
        game = (2, cells, tuple(reading((0, 1, 2), (k,)) for k in (3, 4, 5)) * 2 + (deed_at(3), deed_at(4)),
                ((YES,) * 6,) * 2)
        self.assertTrue(ordered(game, (0, 1, 2, 3, 4, 5)))
        self.assertTrue(ordered(game, (0,) * 6))
        self.assertEqual(ordered(game[:2] + ((PUT[:3] + (((0, chosen(0, [1, 2])), (1, C0)), (0, 1)),) * 8,) + game[3:],
                                 (0, 1, 1, 1, 1, 1)),
                         False)


if __name__ == "__main__":
    unittest.main()

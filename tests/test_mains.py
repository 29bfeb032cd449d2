"""What holds of the parts on sets, just wires, classes, joiners, watchers, likeness, lies, roads and gaps."""

import itertools
import unittest

from knownplay.classes import classes, memories, memories_error
from knownplay.gaps import asked_enough, known_by_gaps
from knownplay.joiners import join_paper
from knownplay.justpapers import is_just, just_paper_error, lasting
from knownplay.justparts import can_be_just, greatest, spilling
from knownplay.leaks import lack, leak, pairs_by_views
from knownplay.lies import finders, found_at, lie_for_good, lie_lasts, lie_paper, lie_paper_error
from knownplay.likeness import as_good, cheaper
from knownplay.plays import states
from knownplay.roads import lacking, taken
from knownplay.sets import known, sure, witnesses
from knownplay.settables import number_of, set_table
from knownplay.watchers import helps_error, reach, reach_paper, watched
from knownplay.wires import heard, wire_without
from tests.knowing import some_knowing, surer
from tests.test_gaps import lots, some_gapped
from tests.test_joiners import some_joining
from tests.test_leaks import some_telling
from tests.test_lies import cut, some_liars, some_told
from tests.test_watchers import some_watching
from tests.things import Things


class Sets(unittest.TestCase):
    def test_rows_with_one_set_go_on_alike(self):
        for knowing in some_knowing(431, 40):
            game, wire, ears = knowing.game, knowing.wire, knowing.ears
            table = set_table(game, wire, ears)
            places = {}
            for row, some in knowing.known_by_plays(3).items():
                places.setdefault(some, []).append(row)
            for rows in places.values():
                self.assertEqual(len({number_of(table, row) for row in rows}), 1)
                for letters in knowing.next_heard(known(game, wire, ears, rows[0])):
                    self.assertEqual(len({known(game, wire, ears, row + (letters,)) for row in rows}), 1)

    def test_more_ears_are_surer(self):
        for knowing in some_knowing(432, 40):
            game, wire = knowing.game, knowing.wire
            every = tuple(range(game[0]))
            for play, _, come in knowing.plays_heard(3)[:20]:
                shown = sure(game, known(game, wire, every, heard(game, wire, every, play)))
                for ear in every:
                    less = sure(game, known(game, wire, (ear,), heard(game, wire, (ear,), play)))
                    self.assertTrue(all(item is None or item == other for item, other in zip(less, shown)))
                    self.assertTrue(all(item is None or item == value for item, value in zip(less, come[-1])))

    def test_all_states_of_a_set_are_witnessed_and_each_value_shown_else_is_wrong(self):
        for knowing in some_knowing(433, 30):
            game, wire, ears = knowing.game, knowing.wire, knowing.ears
            for row, some in list(knowing.known_by_plays(2).items())[:5]:
                plays = witnesses(game, wire, ears, row)
                values = [{knowing.through(play)[-1][c] for play in plays} for c in range(len(game[1]))]
                wanted = tuple(min(one) if len(one) == 1 else None for one in values)
                self.assertEqual(sure(game, some), wanted)


class Just(unittest.TestCase):
    def test_each_just_paper_has_all_pairs_by_views(self):
        for telling in some_telling(441, 40):
            for player in range(telling.game[0]):
                pairs = pairs_by_views(telling.game, player)
                if is_just(telling.game, telling.wire, player):
                    self.assertIsNone(lasting(telling.game, telling.wire, player))
                    for k in range(len(pairs)):
                        self.assertIsNotNone(just_paper_error(telling.game, telling.wire, player, pairs[:k] + pairs[k + 1:]))

    def test_one_greatest_rule(self):
        things = Things(442)
        for telling in some_telling(443, 30):
            game, wire = telling.game, things.tiny_wire(telling.game, 4)
            for player, rule in enumerate(wire):
                best = greatest(game, wire, player)
                self.assertIsNone(leak(game, best, player))
                self.assertEqual(can_be_just(game, wire, player), lack(game, best, player) is None)
                if not spilling(game, wire, player):
                    self.assertEqual(best, wire)
                for k in range(len(rule)):
                    less = wire_without(wire, player, (k,))
                    if leak(game, less, player) is not None:
                        self.assertIsNotNone(leak(game, wire, player))
                    if lack(game, less, player) is None:
                        self.assertIsNone(lack(game, wire, player))


class Classes(unittest.TestCase):
    def test_no_table_of_fewer_memories_fits(self):
        for knowing in some_knowing(451, 40):
            game, wire, ears = knowing.game, knowing.wire, knowing.ears
            table = memories(game, wire, ears)
            self.assertEqual(len(table), len(set(classes(game, wire, ears))))
            # Two memories made one: whatever leads to the one leads to the other one then.
            for one, other in list(itertools.combinations(range(len(table)), 2))[:6]:
                merged = tuple((shown, tuple((letters, one if to == other else to) for letters, to in leads))
                               for shown, leads in table)
                self.assertIsNotNone(memories_error(game, wire, ears, merged))

    def test_joiners_within_elders(self):
        kinds = set()
        for joining in some_joining(452, 50):
            triples = joining.far_triples()
            for triple in list(triples)[:25]:
                state, elder, joiner = triple
                self.assertIn(state, elder)
                self.assertIn(state, joiner)
                within, around = set(joiner) <= set(elder), set(elder) <= set(joiner)
                come = {triple}
                todo = [triple]
                for one in todo:
                    for _, letters, behind in joining.moves_heard(one[0]):
                        new = (behind, joining.after(one[1], letters), joining.after(one[2], letters))
                        if new not in come:
                            come.add(new)
                            todo.append(new)
                self.assertFalse(within and any(surer(some, other) for _, some, other in come))
                self.assertFalse(around and any(surer(other, some) for _, some, other in come))
                kinds.add((within, around))
            for word in ("gap", "spill"):
                paper = join_paper(joining.game, joining.wire, joining.ears[0], joining.rule, word)
                bad = any(joining.has(word, triple) for triple in triples)
                self.assertEqual(paper is None, bad)
        self.assertTrue({(True, True), (True, False), (False, True)} <= kinds)


class Watchers(unittest.TestCase):
    def test_help_as_late_as_you_like(self):
        rings = 0
        for watching in some_watching(461, 100):
            game, wire, player = watching.game, watching.wire, watching.player
            paper = reach_paper(game, wire, player)
            if paper[0] != "ring":
                continue
            rings += 1
            _, row, state, way, ring = paper
            starts = known(game, wire, (player,), row)
            play = witnesses(game, wire, (player,), row)[starts.index(state)]
            letters = (way + ring * 8)[:8]
            paths = [((), state)]
            for told in letters:
                paths = [(moves + (move,), behind) for moves, here in paths
                         for move, heard_so, behind in watching.moves_heard(here) if heard_so == told][:50]
            whole = play + paths[0][0]
            for lag in range(9):
                self.assertIsNone(helps_error(game, wire, player, lag, whole))
        self.assertGreater(rings, 10)

    def test_a_greater_lag_knows_no_more(self):
        for watching in some_watching(462, 30):
            game, wire, player = watching.game, watching.wire, watching.player
            for play, _, _ in watching.plays_heard(3)[:10]:
                sets = [watched(game, wire, player, lag, play) for lag in range(5)]
                self.assertTrue(all(set(one) <= set(other) for one, other in zip(sets, sets[1:])))
                self.assertEqual(sets[3], known(game, wire, (player,), heard(game, wire, (player,), play)))
            if all(len(some) == 1 for some, _ in watching.table()):
                self.assertEqual(reach(game, wire, player), 0)

    def test_likeness_of_three_wires(self):
        things = Things(463)
        found = set()
        for knowing in some_knowing(464, 40, 30):
            game = knowing.game
            wires = [knowing.wire, things.tiny_wire(game), things.tiny_wire(game), ((),) * game[0]]
            good = {(one, other): as_good(game, one, other, 0) is None for one in wires for other in wires}
            found |= set(good.values())
            for one, other, third in itertools.product(wires, repeat=3):
                self.assertTrue(good[one, one])
                self.assertFalse(good[one, other] and good[other, third] and not good[one, third])
            wire = things.tiny_wire(game, 4)
            places = range(len(wire[0]))
            enough = set()
            for many in range(len(places) + 1):
                for some in itertools.combinations(places, many):
                    part = wire_without(wire, 0, tuple(k for k in places if k not in some))
                    self.assertIsNone(as_good(game, wire, part, 0))
                    if as_good(game, part, wire, 0) is None:
                        enough.add(some)
            for some, more in itertools.product(enough, itertools.chain(enough, [tuple(places)])):
                self.assertTrue(not set(some) <= set(more) or more in enough)
            self.assertIn(cheaper(game, wire, 0), enough)
            self.assertEqual(len(cheaper(game, wire, 0)), min(map(len, enough)))
        self.assertEqual(found, {True, False})


class Lies(unittest.TestCase):
    def test_a_greater_lot_finds_what_a_lesser_one_finds_and_no_later(self):
        for whole, told, _ in some_told(471, 60):
            game, wire = whole.game, whole.wire
            players = range(game[0])
            where = {}
            for lot in [lot for many in range(1, game[0] + 1) for lot in itertools.combinations(players, many)]:
                where[lot] = found_at(game, wire, tuple(row if p in lot else None for p, row in enumerate(told)))
            least = finders(game, wire, told)
            for lot, tick in where.items():
                self.assertEqual(tick is not None, any(set(one) <= set(lot) for one in least))
                for other, later in where.items():
                    if set(other) <= set(lot) and later is not None:
                        self.assertTrue(tick is not None and tick <= later)

    def test_nothing_honest_is_accused(self):
        things = Things(472)
        for knowing in some_knowing(473, 40):
            game, wire = knowing.game, knowing.wire
            for play, _, _ in knowing.plays_heard(3)[:10]:
                rows = [tuple(letters[p] for letters in heard(game, wire, tuple(range(game[0])), play)) for p in range(game[0])]
                told = tuple(row[:things.random.randint(1, 4)] for row in rows)
                self.assertEqual((finders(game, wire, told), found_at(game, wire, cut(told, 2))), ((), None))

    def test_for_good_or_a_paper(self):
        for liar in some_liars(474, 60):
            arguments = (liar.game, liar.wire, liar.player)
            paper, for_good = lie_paper(*arguments), lie_for_good(*arguments)
            self.assertNotEqual(paper is None, for_good is None)
            if paper is not None:
                self.assertIsNone(lie_paper_error(*arguments, paper))
                self.assertEqual(paper[0], lie_lasts(*arguments))
                self.assertLessEqual(paper[0], len(paper[2]))


class Roads(unittest.TestCase):
    def test_what_is_not_asked_for_lacks_whatever_else_comes(self):
        things = Things(481)
        for _ in range(100):
            numbers = things.random.sample(range(20), 8)
            device = ((), ())
            for number in numbers:
                device = taken(device, number, number)
            for lost in lacking(device):
                more = device
                for number in things.random.sample(range(20), 20):
                    if number != lost:
                        more = taken(more, number, number)
                self.assertLessEqual(len(more[0]), lost)
                self.assertEqual(lacking(more), (lost,) if lost < 19 else ())

    def test_more_numbers_than_enough_are_enough(self):
        for gapped in some_gapped(482, 80, 3):
            enough = {numbers: asked_enough(*gapped.arguments, numbers) is None for numbers in lots(gapped.gaps)[:16]}
            if gapped.gaps in enough:
                self.assertTrue(enough[gapped.gaps])
            for one, other in itertools.product(enough, repeat=2):
                self.assertTrue(not set(one) <= set(other) or not enough[one] or enough[other])

    def test_what_is_sure_by_gaps_is_never_wrong(self):
        for gapped in some_gapped(483, 80, 3):
            shown = sure(gapped.game, known_by_gaps(*gapped.arguments))
            come = states(gapped.game)
            for _, row, through in gapped.plays:
                if gapped.fits(gapped.row, tuple(letters[0] for letters in row)):
                    self.assertIn(through[-1], come)
                    self.assertTrue(all(item in (None, value) for item, value in zip(shown, through[-1])))


if __name__ == "__main__":
    unittest.main()

"""Pairs of states alike by views and by rows, leaks and lacks, against all short plays."""

import itertools
import unittest

from knownplay.knowngames import known_game, known_names
from knownplay.knownwires import bare_wire, changes_wire, plain_wire, silent_wire
from knownplay.leaks import lack, lack_error, leak, leak_error, pairs_by_rows, pairs_by_views
from knownplay.plays import play_error, states
from knownplay.views import view
from knownplay.wires import heard_by
from tests.knowing import MIXED, Knowing, counting, far_from, some_knowing, too_many
from tests.things import ODD_VALUES, YES

OPEN = ("same", ("cell", 1), ("is", 1))
TOSS = (None, 2, ("not", OPEN), ((0, ("draw",)),), ())
LID = (0, 1, YES, ((1, ("less", ("is", 1), ("cell", 1))),), (0, 1))
BOX = (2, ((2, 0), (2, 0)), (TOSS, LID), ((OPEN, YES), (OPEN, YES)))
WHETHER = (YES, ("cell", 1))
FAIR, BLAB, MUTE = ((OPEN, ("cell", 0)), WHETHER), ((YES, ("cell", 0)), WHETHER), (WHETHER,)
NO = ("not", YES)


class Telling(Knowing):
    """A game and wire as one player sees it and hears it."""

    def items(self, state, player):
        """The triples of the item in the view, the letter, and the state behind, for each move, in order."""
        found = []
        for (deed, drawn), letters, behind in self.moves_heard(state):
            done = self.moves(state)[deed, drawn][0]
            what = None
            if done and player in self.game[2][deed][4]:
                what = deed
            elif not done and self.game[2][deed][0] == player:
                what = ("no", deed)
            found.append(((deed, drawn), (what, self.sight(player, behind)), letters[self.ears.index(player)], behind))
        return found

    def pairs(self, player, place):
        """A dict of the pairs alike by views, or by rows, as place 1 or 2 of an item tells: how few moves lead there."""
        def behind(pair):
            return [(m[3], n[3]) for m in self.items(pair[0], player) for n in self.items(pair[1], player)
                    if m[place] == n[place]]
        return far_from((self.first, self.first), behind)

    def shortest(self, player, place):
        """How few moves two plays have that are told the same by place, and unlike by the other one; None if none."""
        least = None
        for pair, many in self.pairs(player, place).items():
            for m, n in itertools.product(self.items(pair[0], player), self.items(pair[1], player)):
                if m[place] == n[place] and m[3 - place] != n[3 - place]:
                    least = many + 1 if least is None else min(least, many + 1)
        return least


def some_telling(seed, many):
    """So many Tellings of tiny games."""
    return [Telling(knowing.game, knowing.wire, range(knowing.game[0])) for knowing in some_knowing(seed, many)]


class Pairs(unittest.TestCase):
    def test_by_steps_from_pair_to_pair(self):
        for telling in some_telling(201, 60):
            for player in range(telling.game[0]):
                by_views = tuple(sorted(telling.pairs(player, 1)))
                by_rows = tuple(sorted(telling.pairs(player, 2)))
                self.assertEqual(pairs_by_views(telling.game, player), by_views)
                self.assertEqual(pairs_by_rows(telling.game, telling.wire, player), by_rows)
                for pairs in (by_views, by_rows):
                    self.assertTrue(all((t, s) in pairs for s, t in pairs))
                    self.assertTrue(all((s, s) in pairs for s in states(telling.game)))

    def test_against_all_short_plays(self):
        for telling in some_telling(202, 60):
            game, wire = telling.game, telling.wire
            for player in range(game[0]):
                by_views, by_rows = pairs_by_views(game, player), pairs_by_rows(game, wire, player)
                plays = [item for ticks in range(4) for item in telling.plays_heard(ticks)[:150]]
                told = [(view(game, player, play), heard_by(game, wire, player, play), come[-1])
                        for play, _, come in plays]
                groups = {}
                for seen, row, end in told:
                    groups.setdefault(("view", seen), set()).add(end)
                    groups.setdefault(("row", row), set()).add(end)
                for (word, _), ends in groups.items():
                    pairs = by_views if word == "view" else by_rows
                    self.assertTrue(all(pair in pairs for pair in itertools.product(ends, repeat=2)))

    def test_known_games(self):
        for name in known_names():
            game = known_game(name)
            for player in range(game[0]):
                pairs = pairs_by_views(game, player)
                self.assertEqual(pairs_by_rows(game, plain_wire(game), player), pairs)
                self.assertEqual(pairs_by_rows(game, bare_wire(game), player), tuple((s, s) for s in states(game)))

    def test_just_3000_and_more(self):
        # The player 1 sees nothing of a counter that may go on or stay: of so many states each two are alike.
        def counter(*sizes):
            deeds = tuple((None, 2, YES, ((c, ("sum", ("cell", c), ("draw",))),), ()) for c in range(len(sizes)))
            return (2, tuple((size, 0) for size in sizes), deeds, ((YES,) * len(sizes), (NO,) * len(sizes)))
        # 3 * 3 * 6 = 54 states have 2916 pairs, 5 * 11 = 55 are not to be had, 3 * 5 * 4 = 60 have 3600.
        for sizes, many in (((3, 3, 6), 2916), ((5, 5, 2), 2500)):
            game = counter(*sizes)
            self.assertEqual(len(pairs_by_views(game, 1)), many)
            self.assertEqual(len(pairs_by_rows(game, silent_wire(game), 1)), many)
        game = counter(3, 5, 4)
        too_many(self, lambda: pairs_by_views(game, 1))
        too_many(self, lambda: pairs_by_rows(game, silent_wire(game), 1))
        self.assertEqual(len(pairs_by_rows(game, bare_wire(game), 1)), 60)
        # Who sees all has as many pairs as there are states.
        game = counting((5, 5, 5, 6, 4))
        self.assertEqual(len(pairs_by_views(game, 0)), 3000)
        self.assertEqual(len(pairs_by_rows(game, bare_wire(game), 1)), 3000)
        game = counting((5, 5, 5, 6, 4), (4, 4, 4, 5, 3))
        too_many(self, lambda: pairs_by_views(game, 0))
        too_many(self, lambda: pairs_by_rows(game, bare_wire(game), 1))


class Plays(unittest.TestCase):
    def check(self, telling, player):
        """Checks leak and lack of a player; returns whether they are told."""
        game, wire = telling.game, telling.wire
        found = []
        for call, judge, other_judge, place in ((leak, leak_error, lack_error, 1), (lack, lack_error, leak_error, 2)):
            plays = call(game, wire, player)
            shortest = telling.shortest(player, place)
            found.append(plays is not None)
            if shortest is None:
                self.assertIsNone(plays)
                continue
            self.assertEqual([len(play) for play in plays], [shortest] * 2)
            self.assertIsNone(judge(game, wire, player, plays))
            self.assertIsNone(judge(game, wire, player, plays[::-1]))
            self.assertEqual(other_judge(game, wire, player, plays)[0], "views" if place == 2 else "rows")
            self.assertLessEqual(shortest, len(telling.pairs(player, place)))
        return tuple(found)

    def test_as_short_as_can_be(self):
        found = [self.check(telling, player) for telling in some_telling(203, 80) for player in range(telling.game[0])]
        for kind in itertools.product((True, False), repeat=2):
            self.assertGreater(found.count(kind), 5, kind)

    def test_known_wires(self):
        for name in known_names():
            game = known_game(name)
            for player in range(game[0]):
                self.assertIsNone(leak(game, plain_wire(game), player))
                self.assertIsNone(lack(game, plain_wire(game), player))
                self.assertIsNone(leak(game, silent_wire(game), player))
                self.assertIsNotNone(lack(game, silent_wire(game), player))
        for name in ("cups", "heaps", "lamps"):
            game = known_game(name)
            for player in range(game[0]):
                for call in (leak, lack):
                    try:
                        wire = changes_wire(game)
                    except ValueError:
                        continue
                    self.assertIsNone(call(game, wire, player))

    def test_other_players_rules_are_nothing(self):
        for telling in some_telling(204, 30):
            game, wire = telling.game, telling.wire
            for player in range(game[0]):
                alone = tuple(rule if p == player else () for p, rule in enumerate(wire))
                for call in (leak, lack):
                    self.assertEqual(call(game, alone, player), call(game, wire, player))

    def test_too_many_also_where_one_is_found_ahead(self):
        # A wire that tells the draw leaks at the first tick already; one that tells nothing lacks there.
        hidden = (None, 2, YES, (), ())
        counter = tuple((None, 2, YES, ((c, ("sum", ("cell", c), ("draw",))),), (1,)) for c in range(3))
        game = (2, ((3, 0), (5, 0), (4, 0)), (hidden,) + counter, ((YES,) * 3, (NO,) * 3))
        too_many(self, lambda: leak(game, ((), ((YES, ("draw",)),)), 1))
        too_many(self, lambda: lack(game, silent_wire(game), 1))
        less = (2, game[1][:1] + game[1][2:], (hidden,) + counter[:2], ((YES,) * 2, (NO,) * 2))
        self.assertEqual(len(leak(less, ((), ((YES, ("draw",)),)), 1)[0]), 1)
        self.assertEqual(len(lack(less, silent_wire(less), 1)[0]), 1)


class Errors(unittest.TestCase):
    def test_values_without_form(self):
        for value in ODD_VALUES + MIXED + ([(), ()], ((),), ((), (), ()), "ab"):
            if not isinstance(value, tuple) or len(value) != 2:
                self.assertEqual(leak_error(BOX, (BLAB, BLAB), 1, value), "form")
                self.assertEqual(lack_error(BOX, (MUTE, MUTE), 1, value), "form")

    def test_pairs_of_what_are_no_plays(self):
        right = ((0, 0), (1, 0))
        values = ODD_VALUES + MIXED + (right + ((0, 0),), ((0, True),), [(0, 0)], ((0, 2),), ((2, 0),))
        for bad in [value for value in values if play_error(BOX, value) is not None]:
            error = play_error(BOX, bad)
            for judge in (leak_error, lack_error):
                self.assertEqual(judge(BOX, (MUTE, MUTE), 1, (bad, right)), ("play", 0, error))
                self.assertEqual(judge(BOX, (MUTE, MUTE), 1, (right, bad)), ("play", 1, error))
                self.assertEqual(judge(BOX, (MUTE, MUTE), 1, (bad, None)), ("play", 0, error))

    def test_all_pairs_of_short_plays(self):
        told = set()
        for telling in some_telling(205, 25):
            game, wire = telling.game, telling.wire
            plays = [item[0] for ticks in range(3) for item in telling.plays_heard(ticks)[:12]]
            for player in range(game[0]):
                views = {play: view(game, player, play) for play in plays}
                rows = {play: heard_by(game, wire, player, play) for play in plays}
                for pair in itertools.product(plays, repeat=2):
                    for judge, first, then, words in ((leak_error, views, rows, ("views", "rows")),
                                                      (lack_error, rows, views, ("rows", "views"))):
                        one, other = first[pair[0]], first[pair[1]]
                        places = [t for t in range(max(len(one), len(other))) if one[t:t + 1] != other[t:t + 1]]
                        wanted = (words[0], places[0]) if places else None
                        if wanted is None and then[pair[0]] == then[pair[1]]:
                            wanted = words[1]
                        self.assertEqual(judge(game, wire, player, pair), wanted)
                        told.add((judge.__name__, wanted if wanted is None or isinstance(wanted, str) else wanted[0]))
        self.assertEqual(len(told), 6)

    def test_long_plays(self):
        ahead = ((0, 0), (1, 0), (1, 0)) * 300
        pair = (ahead + ((0, 0),), ahead + ((0, 1),))
        self.assertIsNone(leak_error(BOX, (BLAB, BLAB), 1, pair))
        self.assertEqual(leak_error(BOX, (FAIR, FAIR), 1, pair), "rows")
        self.assertEqual(lack_error(BOX, (BLAB, BLAB), 1, pair), ("rows", 901))
        opened = tuple(play + ((1, 0),) for play in pair)
        self.assertEqual(leak_error(BOX, (BLAB, BLAB), 1, opened), ("views", 902))
        self.assertIsNone(lack_error(BOX, (MUTE, MUTE), 1, opened))
        self.assertEqual(lack_error(BOX, (MUTE, MUTE), 1, pair), "views")


if __name__ == "__main__":
    unittest.main()

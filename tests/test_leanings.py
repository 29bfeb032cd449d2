"""Plays behind which a wire leans, against all short plays; lean papers, their faults, and how many planes there are."""

import unittest
from fractions import Fraction
from unittest import mock

from knownplay import leanings
from knownplay.errors import TooMany
from knownplay.justpapers import is_just
from knownplay.knowngames import known_game, known_names
from knownplay.knownwires import bare_wire, changes_wire, plain_wire, silent_wire
from knownplay.leanings import leaning, leaning_error, leans
from knownplay.leanpapers import lean_paper, lean_paper_error
from knownplay.odds import hit
from knownplay.plays import moves, states, stepped
from tests.chances import Chances, some_chances
from tests.knowing import MIXED, counting, too_many
from tests.test_odds import HINT, HUMMING, QUIET
from tests.things import ODD_VALUES, YES, Things

NO = ("not", YES)
FLAT = ((1, 1, 1), (1, 2, 1), (2, 1, 1), (2, 2, 1))
PAPER = ((((0, 0, 1),),), (FLAT,), (FLAT,))


def chosen(cell, values):
    """A term that is worth the value at the place that a cell tells."""
    term = ("is", values[-1])
    for k in reversed(range(len(values) - 1)):
        term = ("choose", ("same", ("cell", cell), ("is", k)), ("is", values[k]), term)
    return term


def blind(sizes):
    """A game in which the player 0 sees its phase alone, the cell 1, and in each phase the cell 0 has so many values.

    By each two deeds its own cell goes round, or perhaps from 0 to 1: so a phase of n values has n * n * (n + 1) / 2
    planes. The last deed begins the next phase.
    """
    deeds = []
    for phase, size in enumerate(sizes):
        here = ("same", ("cell", 1), ("is", phase))
        if size > 1:
            deeds.append((None, 1, here, ((0, chosen(0, [(k + 1) % size for k in range(size)])),), ()))
            lifted = ("choose", ("both", ("same", ("cell", 0), ("is", 0)), ("same", ("draw",), ("is", 1))), ("is", 1),
                      ("cell", 0))
            deeds.append((None, 2, here, ((0, lifted),), ()))
    begin = ((0, ("is", 0)), (1, ("sum", ("cell", 1), ("is", 1))))
    deeds.append((None, 1, ("below", ("cell", 1), ("is", len(sizes) - 1)), begin, ()))
    return (2, ((6, 0), (6, 0)), tuple(deeds), ((NO, YES), (YES, YES)))


def rank(tables):
    """How many of some tables, dicts of fractions, none comes of the ones ahead."""
    basis = []
    for table in tables:
        for pivot, other in basis:
            if table.get(pivot, 0):
                times = table[pivot] / other[pivot]
                table = {key: table.get(key, 0) - times * other.get(key, 0) for key in {**table, **other}}
        left = {key: value for key, value in table.items() if value}
        if left:
            basis.append((min(left), left))
    return len(basis)


def pair_table(seen, heard):
    """The pair table of two sides."""
    return {(one, other): x * y for one, x in seen.items() for other, y in heard.items()}


def has_few_planes(game, wire):
    """Whether for no player there are too many planes."""
    try:
        for player in range(game[0]):
            leaning(game, wire, player)
    except TooMany:
        return False
    return True


def some_leaning(seed, many):
    """So many Chances of games and wires with few planes."""
    some = [chances for chances, _, _ in some_chances(seed, many + 20)]
    return [chances for chances in some if has_few_planes(chances.game, chances.wire)][:many]


class Leaning(unittest.TestCase):
    def test_against_all_short_plays(self):
        found, none = 0, 0
        for chances in some_leaning(551, 50):
            game, wire = chances.game, chances.wire
            plays = chances.plays(3)[:400]
            most = len(plays[-1])
            for player in range(game[0]):
                bad = [play for play in plays if chances.leans(player, play)]
                told = leaning(game, wire, player)
                if bad:
                    self.assertEqual(len(told), min(len(play) for play in bad))
                elif told is not None:
                    self.assertGreaterEqual(len(told), most)
                if told is None:
                    none += 1
                else:
                    self.assertIsNone(leaning_error(game, wire, player, told))
                    self.assertTrue(chances.leans(player, told))
                    found += 1
                for play in plays[:60]:
                    self.assertEqual(leaning_error(game, wire, player, play), None if play in bad else "even")
        self.assertGreater(min(found, none), 20)

    def test_judge(self):
        bad = lambda value: leaning_error(HUMMING, HINT, 1, value)
        for value in ODD_VALUES + MIXED + ([(0, 0)], ((0, 2),), ((0, 0), (0, 0)), ((0, 0), (1, True)), ((1, 0),)):
            self.assertEqual(bad(value), "even" if value == () or value == ((0, 0),) else "play")
        longer = ((0, 0),) + ((1, 0),) * 20
        self.assertIsNone(bad(longer))
        self.assertEqual(bad(longer + ((1, 2),) * 20), "even")

    def test_wires_that_hint_without_excluding(self):
        # All that can be is the same by both sides; what is likely is not.
        self.assertEqual(len(leaning(HUMMING, HINT, 1)), 2)
        seen, heard = Chances(HUMMING, HINT).both_sides(1, ((0, 0), (1, 0)))
        self.assertEqual(set(seen), set(heard))
        self.assertIsNone(lean_paper(HUMMING, HINT, 1))
        self.assertGreater(Fraction(*hit(HUMMING, HINT, (1,), (0, 1), 0)),
                           Fraction(*hit(HUMMING, QUIET, (1,), (0, 1), 0)))

    def test_wires_that_leak_and_do_not_lean(self):
        # A coin that nobody sees is 1 with odds of 2 to 3; then it may be turned to 0. Each letter is told of moves of unlike
        # numbers and weights, and leaves the odds as they are by the view: 2 to 1.
        first, second = ("same", ("cell", 1), ("is", 0)), ("same", ("cell", 1), ("is", 1))
        low = lambda least: ("choose", ("below", ("draw",), ("is", least)), ("is", 0), ("is", 1))
        throw = (None, 3, first, ((0, low(1)), (1, ("is", 1))), ())
        turn = (None, 4, second, ((0, ("choose", ("same", ("cell", 0), ("is", 0)), ("is", 0), low(2))), (1, ("is", 2))),
                ())
        idle = (None, 2, ("same", ("cell", 1), ("is", 2)), (), ())
        game = (2, ((2, 0), (3, 0)), (throw, turn, idle), ((NO, YES), (YES, YES)))
        told = ("both", ("same", ("deed",), ("is", 1)), ("either", ("same", ("was", 0), ("is", 0)),
                                                         ("same", ("draw",), ("is", 3))))
        for more in ((), ((("same", ("deed",), ("is", 2)), ("draw",)),)):
            wire = (((told, ("is", 1)),) + more, ())
            self.assertEqual(Chances(game, wire).both_sides(0, ((0, 0), (1, 0))),
                             ({(0, 2): Fraction(2, 3), (1, 2): Fraction(1, 3)},
                                                                                  {(0, 2): Fraction(1, 3),
                                                                                   (1, 2): Fraction(1, 6)}))
            self.assertFalse(is_just(game, wire, 0))
            self.assertIsNone(leaning(game, wire, 0))
            self.assertIsNone(lean_paper_error(game, wire, 0, lean_paper(game, wire, 0)))
            for play in Chances(game, wire).plays(4):
                self.assertEqual(leaning_error(game, wire, 0, play), "even")

    def test_unlike_states_by_both_sides(self):
        self.assertTrue(leans({0: 1, 1: 1}, {0: 1, 2: 1}))
        self.assertTrue(leans({0: 1, 1: 1}, {0: 1}))
        self.assertFalse(leans({0: 2, 1: 4}, {1: 6, 0: 3}))

    def test_just_wires_never_lean(self):
        for name in known_names():
            game = known_game(name)
            wires = [plain_wire(game)] + ([changes_wire(game)] if name not in ("coin", "door") else [])
            if len(states(game)) > 30:
                for wire in wires:
                    too_many(self, lambda: leaning(game, wire, 0), 30)
                continue
            for wire in wires:
                for player in range(game[0]):
                    try:
                        paper = lean_paper(game, wire, player)
                    except TooMany as error:
                        self.assertEqual(error.limit, 100)
                    else:
                        self.assertIsNone(leaning(game, wire, player))
                        self.assertIsNone(lean_paper_error(game, wire, player, paper))

    def test_just_wires_of_small_games_never_lean(self):
        just = 0
        for chances in some_leaning(552, 120):
            game = chances.game
            for wire in (chances.wire, plain_wire(game), silent_wire(game), bare_wire(game)):
                for player in range(game[0] if has_few_planes(game, wire) else 0):
                    if is_just(game, wire, player):
                        self.assertIsNone(leaning(game, wire, player))
                        just += 1
                    elif leaning(game, wire, player) is None:
                        # Sets by both sides are the same behind each play.
                        for play in chances.plays(2)[:12]:
                            seen, heard = Chances(game, wire).both_sides(player, play)
                            self.assertEqual(set(seen), set(heard))
        self.assertGreater(just, 100)


class Papers(unittest.TestCase):
    def test_exactly_one_is_told(self):
        papers = 0
        for chances in some_leaning(553, 150):
            game, wire = chances.game, chances.wire
            for player in range(game[0]):
                play, paper = leaning(game, wire, player), lean_paper(game, wire, player)
                self.assertNotEqual(play is None, paper is None)
                if paper is not None:
                    self.assertIsNone(lean_paper_error(game, wire, player, paper))
                    self.assertEqual(len(paper), len(states(game)))
                    self.assertTrue(all(abs(whole) < 10 ** 300 for planes in paper for plane in planes for _, _,
                                        whole in plane))
                    papers += 1
        self.assertGreater(papers, 50)

    def test_pair_tables_of_all_plays_come_of_the_planes(self):
        for chances in some_leaning(554, 60):
            game, wire = chances.game, chances.wire
            come = states(game)
            for player in range(game[0]):
                paper = lean_paper(game, wire, player)
                if paper is None:
                    continue
                for play in chances.plays(2)[:30]:
                    number = come.index(chances.through(play)[-1])
                    planes = [{(come[one], come[other]): Fraction(whole) for one, other, whole in plane}
                              for plane in paper[number]]
                    self.assertEqual(rank(planes), len(planes))
                    self.assertEqual(rank(planes + [pair_table(*chances.both_sides(player, play))]), len(planes))

    def test_form(self):
        bad = lambda value: lean_paper_error(HUMMING, QUIET, 1, value)
        self.assertIsNone(bad(PAPER))
        for value in ODD_VALUES + MIXED + (list(PAPER), PAPER + ((),), PAPER[:2] + (list(PAPER[2]),),
                                           PAPER[:2] + (None,)):
            wanted = {"((), (), ())": "first", str(((0, 0, 0),) * 3): ("plane", 0, 0)}
            self.assertEqual(bad(value), wanted.get(str(value)[:99], "form"))

    def test_planes_that_are_none(self):
        for own in ((), None, [(1, 2, 1)], ((1, 2),), ((1, 2, 0),), ((1, 2, True),), ((True, 2, 1),), ((1, 3, 1),),
                    ((3, 1, 1),), ((-1, 2, 1),), ((2, -1, 1),),
                    ((1, 2, 1), (1, 2, 2)), ((2, 1, 1), (1, 2, 1)), ((1, 2, 1), (1, 2, 1)), ((1, 2, None),),
                    ([1, 2, 1],), (1, 2, 1),
                    ((1, 2, 1, 1),), FLAT, tuple((one, other, -7 * whole) for one, other, whole in FLAT)):
            self.assertEqual(lean_paper_error(HUMMING, QUIET, 1, PAPER[:1] + ((FLAT, own),) + PAPER[2:]),
                             ("plane", 1, 1), own)
            self.assertEqual(lean_paper_error(HUMMING, QUIET, 1, PAPER[:1] + ((FLAT,), (FLAT, own, own))),
                             ("plane", 2, 1), own)
        # A plane that comes of two ahead of it by fractions.
        halves = (FLAT[:2], FLAT[2:], tuple((one, other, 3 if one == 1 else -5) for one, other, _ in FLAT))
        self.assertEqual(lean_paper_error(HUMMING, QUIET, 1, PAPER[:1] + (halves,) + PAPER[2:]), ("plane", 1, 2))
        self.assertEqual(lean_paper_error(HUMMING, QUIET, 1, PAPER[:1] + (halves[:2],) + PAPER[2:]), ("even", 1, 0))

    def test_which_fault_is_told_first(self):
        bad = lambda value, wire=QUIET: lean_paper_error(HUMMING, wire, 1, value)
        self.assertEqual(bad(((None,), [], ())), "form")
        self.assertEqual(bad(((((0, 0, 1),), None), (None,), ())), ("plane", 0, 1))
        self.assertEqual(bad(((), (None,), ())), ("plane", 1, 0))
        self.assertEqual(bad(((), (((1, 2, 1),),), ())), "first")
        self.assertEqual(bad(((((0, 1, 1),),),) + PAPER[1:]), "first")
        self.assertEqual(bad(PAPER[:1] + ((((1, 2, 1),),),) + PAPER[2:]), ("behind", 0, 0, (0, 0)))
        self.assertEqual(bad(PAPER[:1] + ((FLAT,), (FLAT, ((0, 1, 1),)))), ("even", 2, 1))
        self.assertEqual(bad(PAPER[:1] + ((FLAT, ((1, 2, 1),)), (FLAT,))), ("even", 1, 1))
        self.assertEqual(bad(PAPER, HINT), ("behind", 1, 0, (1, 0)))
        self.assertEqual(bad(PAPER[:1] + ((FLAT, ((1, 2, 1),)), (FLAT, ((1, 2, 1),)))), ("even", 1, 1))
        self.assertEqual(bad(PAPER[:1] + ((FLAT,), (FLAT, ((1, 2, 1),)))), ("even", 2, 1))

    def test_planes_by_fractions_in_other_words(self):
        # The first plane comes of those of the first state by other planes, too.
        first = (((0, 0, 3), (0, 1, 1)), ((0, 1, 5),))
        self.assertEqual(lean_paper_error(HUMMING, QUIET, 1, (first,) + PAPER[1:]), ("even", 0, 0))
        for value in (10 ** 399, -1, 7):
            self.assertIsNone(lean_paper_error(HUMMING, QUIET, 1, ((((0, 0, value),),),) + PAPER[1:]))
        # More planes are let, if all is even and comes of them.
        more = PAPER[:1] + ((FLAT, ((1, 2, 1), (2, 1, 1))),) * 2
        self.assertIsNone(lean_paper_error(HUMMING, QUIET, 1, more))

    def test_behind_in_each_place(self):
        for chances in some_leaning(555, 60):
            game, wire = chances.game, chances.wire
            for player in range(game[0]):
                paper = lean_paper(game, wire, player)
                if paper is None or sum(map(len, paper)) > 12:
                    continue
                for number, planes in enumerate(paper):
                    for k in range(len(planes)):
                        left = paper[:number] + (planes[:k] + planes[k + 1:],) + paper[number + 1:]
                        self.assertEqual(lean_paper_error(game, wire, player, left), self.fault(chances, player, left))

    def fault(self, chances, player, paper):
        """What is told of a paper of which all planes are such and even."""
        come, game = states(chances.game), chances.game
        tables = [[{(come[one], come[other]): Fraction(whole) for one, other, whole in plane} for plane in planes]
                  for planes in paper]
        first = come.index(chances.first)
        if rank(tables[first] + [{(chances.first, chances.first): Fraction(1)}]) > len(tables[first]):
            return "first"
        for number, planes in enumerate(tables):
            for k, table in enumerate(planes):
                for move in moves(game, come[number]):
                    behind = come.index(stepped(game, come[number], move))
                    if rank(tables[behind] + [self.behind(chances, player, table, come[number],
                                                          move)]) > len(tables[behind]):
                        return ("behind", number, k, move)
        return None

    def behind(self, chances, player, table, state, move):
        """The table behind a move, by the words of the document."""
        sides = []
        for told in (self.seen, self.heard):
            sides.append({one: [(behind, weight) for its_move, behind, weight in self.weighed(chances, one, move[0])
                                if told(chances, player, one, its_move) == told(chances, player, state, move)]
                          for one in states(chances.game)})
        found = {}
        for (one, other), whole in table.items():
            for after, weight in sides[0][one]:
                for its_like, its_weight in sides[1][other]:
                    found[after, its_like] = found.get((after, its_like), 0) + whole * weight * its_weight
        return found

    def weighed(self, chances, state, deed):
        """The moves of a deed in a state, the states behind, and their weights."""
        outcomes = chances.game[2][deed][1]
        return [(move, behind, Fraction(1, outcomes) if done else Fraction(1))
                for move, (done, behind) in chances.moves(state).items() if move[0] == deed]

    def seen(self, chances, player, state, move):
        """What a player sees of a move."""
        done, behind = chances.moves(state)[move]
        deed = chances.game[2][move[0]]
        what = move[0] if done and player in deed[4] else ("no", move[0]) if not done and player == deed[0] else None
        return what, chances.sight(player, behind)

    def heard(self, chances, player, state, move):
        """What a player hears of a move."""
        done, behind = chances.moves(state)[move]
        moment = (behind, state, move[0], move[1], True) if done else (state, state, move[0], 0, False)
        return chances.letter(chances.wire[player], moment)

    def test_values_of_any_kind(self):
        things = Things(556)
        pieces = ODD_VALUES + MIXED + (FLAT, PAPER, PAPER[0], ((1, 2, 1),))
        words = set()
        for _ in range(300):
            value = [list(planes) for planes in PAPER]
            number, piece = things.random.randrange(3), things.random.choice(pieces)
            value[number].insert(0, piece)
            error = lean_paper_error(HUMMING, QUIET, 1, tuple(tuple(planes) for planes in value))
            if piece != FLAT and piece != ((1, 2, 1),):
                self.assertEqual(error, ("plane", number, 0), piece)
            words.add(error and error[0])
        self.assertLessEqual(words, {"plane", None, "even"})


class Bounds(unittest.TestCase):
    def test_thirty_states_and_one_more(self):
        thirty, more = counting((5, 6)), counting((5, 6), (4, 5))
        self.assertEqual((len(states(thirty)), len(states(more))), (30, 31))
        for call in (leaning, lean_paper):
            call(thirty, plain_wire(thirty), 0)
            too_many(self, lambda: call(more, plain_wire(more), 0), 30)
        self.assertEqual(lean_paper_error(thirty, plain_wire(thirty), 0, None), "form")
        too_many(self, lambda: lean_paper_error(more, plain_wire(more), 0, None), 30)
        # More than 3000 states are too many for this in the same way.
        most = counting((6, 6, 6, 6, 6))
        for call in (leaning, lean_paper):
            too_many(self, lambda: call(most, silent_wire(most), 0), 30)
        too_many(self, lambda: lean_paper_error(most, silent_wire(most), 0, None), 30)
        self.assertEqual(leaning_error(most, silent_wire(most), 0, ()), "even")

    def test_a_hundred_planes_and_one_more(self):
        for sizes, planes in (((5, 3, 2, 1), 100), ((2, 1, 5, 3), 100), ((4, 4, 3), 98)):
            game = blind(sizes)
            paper = lean_paper(game, silent_wire(game), 0)
            self.assertEqual(sum(len(one) for one in paper), planes)
            self.assertIsNone(lean_paper_error(game, silent_wire(game), 0, paper))
            self.assertIsNone(leaning(game, silent_wire(game), 0))
        for sizes in ((5, 3, 2, 1, 1), (1, 5, 3, 2, 1), (6,), (5, 5)):
            game = blind(sizes)
            too_many(self, lambda: lean_paper(game, silent_wire(game), 0), 100)
            too_many(self, lambda: leaning(game, silent_wire(game), 0), 100)
            self.assertEqual(lean_paper_error(game, silent_wire(game), 0, None), "form")

    def test_a_play_that_leans_soon_is_told_whatever_comes_later(self):
        game = blind((6,))
        self.assertEqual(len(leaning(game, bare_wire(game), 0)), 1)
        self.assertIsNone(lean_paper(game, bare_wire(game), 0))
        # The cell is told as soon as it is 2: that needs two deeds at the least.
        wire = (((("same", ("cell", 0), ("is", 2)), ("is", 1)),), ())
        self.assertEqual(len(leaning(game, wire, 0)), 2)

    def test_as_many_planes_as_are_needed(self):
        least = 0
        for chances in some_leaning(557, 60):
            game, wire = chances.game, chances.wire
            for player in range(game[0]):
                play, paper = leaning(game, wire, player), lean_paper(game, wire, player)
                if paper is not None:
                    planes = sum(len(one) for one in paper)
                else:
                    planes = self.planes_of_shorter(chances, player, len(play))
                    if planes is None:
                        continue
                self.assertIsNone(leaning_error(game, wire, player, play) if play else None)
                for limit, raises in ((planes, False), (planes - 1, True)):
                    with mock.patch.object(leanings, "MAX_PLANES", limit):
                        for call in (leaning, lean_paper):
                            if raises:
                                too_many(self, lambda: call(game, wire, player), limit)
                            else:
                                call(game, wire, player)
                least += paper is None
        self.assertGreater(least, 10)

    def planes_of_shorter(self, chances, player, ticks):
        """How many planes the pair tables of all plays of fewer ticks come of; None if there are many plays."""
        plays = [()] if ticks == 1 else chances.plays(ticks - 1)
        if len(plays) > 300:
            return None
        tables = {}
        for play in plays:
            tables.setdefault(chances.through(play)[-1], []).append(pair_table(*chances.both_sides(player, play)))
        return sum(rank(some) for some in tables.values())


if __name__ == "__main__":
    unittest.main()

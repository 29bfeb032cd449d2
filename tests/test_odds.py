"""Odds of states and of values, against the weights of all plays that go by the deeds."""

import itertools
import math
import unittest
from fractions import Fraction

from knownplay.errors import Unfit
from knownplay.knownwires import bare_wire, silent_wire
from knownplay.odds import foretold, guess, hit, odds, rows_by
from knownplay.sets import known
from tests.chances import Chances, as_odds, some_chances
from tests.knowing import MIXED, too_many
from tests.things import ODD_VALUES, YES

NO = ("not", YES)
# The games of the document's examples: a toss that is hummed, and a host who opens a door.
PHASE = (YES, ("cell", 1))
TOSS = (None, 2, ("same", ("cell", 1), ("is", 0)), ((0, ("draw",)), (1, ("is", 1))), ())
HUM = (None, 3, ("same", ("cell", 1), ("is", 1)), (), ())
HUMMING = (2, ((2, 0), (2, 0)), (TOSS, HUM), ((YES, YES), (NO, YES)))
BLURRED = ("choose", ("below", ("draw",), ("is", 2)), ("cell", 0), ("less", ("is", 1), ("cell", 0)))
HINT, QUIET = ((), ((("same", ("deed",), ("is", 1)), BLURRED), PHASE)), ((), (PHASE,))
BEGUN, TOSSED, LOW, HIGH = (((None, 0),),), (((None, 1),),), (((0, 1),),), (((1, 1),),)
# Draws of four outcomes that everybody hears.
DRAWS = (2, ((4, 0), (2, 0)), ((None, 4, YES, ((0, ("draw",)),), ()), (None, 2, YES, ((1, ("draw",)),), ()),
                               (None, 1, ("same", ("cell", 1), ("is", 0)), (), ()), (None, 3, YES, (), ())),
         ((YES, YES), (YES, YES)))
LOUD = ((), ((YES, ("draw",)),))


def raises_unfit(test, *calls):
    """Lets test fail if one of calls does not raise Unfit()."""
    for call in calls:
        with test.assertRaises(Unfit):
            call()


def best(weights, cell):
    """The greatest weight of a value of the cell."""
    found = {}
    for state, weight in weights.items():
        found[state[cell]] = found.get(state[cell], 0) + weight
    return max(found.values())


class Odds(unittest.TestCase):
    def test_against_all_plays(self):
        kinds = set()
        for chances, ears, deeds in some_chances(541, 250):
            game, wire = chances.game, chances.wire
            for row, weights in chances.heard_by_deeds(ears, deeds).items():
                whole = sum(weights.values())
                wanted = tuple((state, as_odds(weights[state] / whole)) for state in sorted(weights))
                told = odds(game, wire, ears, deeds, row)
                self.assertEqual(told, wanted)
                self.assertEqual(sum(Fraction(*one) for _, one in told), 1)
                self.assertTrue(all(math.gcd(*one) == 1 for _, one in told))
                self.assertLessEqual({state for state, _ in told}, set(known(game, wire, ears, row)))
                kinds.add(len(told))
        self.assertGreater(max(kinds), 3)

    def test_deeds_that_are_refused_or_cannot_be_done(self):
        game = (2, ((3, 0),), ((None, 3, YES, ((0, ("draw",)),), ()),
                               (0, 2, ("same", ("cell", 0), ("is", 0)), (), (0,)),
                               (None, 4, ("below", ("cell", 0), ("is", 2)), (), ())), ((YES,), (YES,)))
        wire = silent_wire(game)
        thirds = tuple(((n,), (1, 3)) for n in range(3))
        row = (((),),) * 3
        # Who is refused has a weight of 1, who is done two of a half each.
        self.assertEqual(odds(game, wire, (0,), (0, 1), row), thirds)
        # Where the server cannot do its deed no play goes on.
        self.assertEqual(odds(game, wire, (0,), (0, 2), row), tuple(((n,), (1, 2)) for n in range(2)))
        told = (((YES, ("deed",)), (YES, ("draw",)), (("done",), ("is", 1))), ())
        begun = (((4 - 1, 0, 1),),)
        self.assertEqual(odds(game, told, (0,), (0, 1), begun + (((0, 1, 1),), ((1, 0, None),))), (((1,), (1, 1)),))
        raises_unfit(self, lambda: odds(game, told, (0,), (0, 1), begun + (((0, 1, 1),), ((1, 0, 1),))))

    def test_no_deeds(self):
        self.assertEqual(odds(HUMMING, HINT, (1,), (), BEGUN), (((0, 0), (1, 1)),))
        self.assertEqual(foretold(HUMMING, HINT, (1,), (), (), 0), ((1, 1), (0, 1)))
        self.assertEqual(rows_by(HUMMING, HINT, (1,), ()), ((BEGUN, (1, 1)),))
        self.assertEqual((hit(HUMMING, HINT, (1,), (), 1), guess(HUMMING, HINT, (1,), (), BEGUN, 1)), ((1, 1), 0))

    def test_rows_that_are_none(self):
        row = BEGUN + TOSSED + LOW
        right = (HUMMING, HINT, (1,), (0, 1))
        self.assertEqual(len(odds(*right, row)), 2)
        bad = ODD_VALUES + MIXED + (list(row), row[:2], row + LOW, row[:2] + (((0, True),),), row[:2] + ([(0, 1)],),
                                    (((None, False),),) + row[1:], BEGUN + TOSSED + TOSSED, (None,) * 3, row[1:],
                                    row[:2] + (((0, 1), (0, 1)),), row[:2] + (((0,),),))
        for value in bad:
            raises_unfit(self, lambda: odds(*right, value), lambda: guess(*right, value, 0))
            if value not in (row[:2], ()):
                raises_unfit(self, lambda: foretold(*right, value, 0))

    def test_shorter_rows_are_let_by_foretold_alone(self):
        right = (HUMMING, HINT, (1,), (0, 1))
        self.assertEqual(foretold(*right, (), 0), ((1, 2), (1, 2)))
        self.assertEqual(foretold(*right, (), 1), ((0, 1), (1, 1)))
        raises_unfit(self, lambda: odds(*right, BEGUN + TOSSED), lambda: guess(*right, BEGUN + TOSSED, 0),
                     lambda: odds(*right, ()), lambda: foretold(*right, TOSSED, 0))


class Foretold(unittest.TestCase):
    def test_against_all_plays(self):
        for chances, ears, deeds in some_chances(542, 120):
            game, wire = chances.game, chances.wire
            plays = [(chances.heard(ears, play), weight, state) for play, weight, state in chances.plays_by(deeds)]
            begun = {row[:many] for row, _, _ in plays for many in range(len(deeds) + 2)}
            for row in begun:
                some = [(weight, state) for its_row, weight, state in plays if its_row[:len(row)] == row]
                whole = sum(weight for weight, _ in some)
                for cell, (size, _) in enumerate(game[1]):
                    wanted = tuple(as_odds(sum((weight for weight, state in some if state[cell] == value),
                                               Fraction(0)) / whole)
                                   for value in range(size))
                    self.assertEqual(foretold(game, wire, ears, deeds, row, cell), wanted)
            if not plays:
                raises_unfit(self, lambda: foretold(game, wire, ears, deeds, (), 0))

    def test_the_mean_stays(self):
        for chances, ears, deeds in some_chances(543, 60, 2):
            game, wire = chances.game, chances.wire
            rows = {row: Fraction(*one) for row, one in rows_by(game, wire, ears, deeds)}
            for many in range(len(deeds) + 1):
                for row in {row[:many] for row in rows}:
                    longer = {}
                    for whole, weight in rows.items():
                        if whole[:many] == row:
                            longer[whole[:many + 1]] = longer.get(whole[:many + 1], 0) + weight
                    means = [sum(weight * Fraction(*foretold(game, wire, ears, deeds, one, 0)[value])
                                 for one, weight in longer.items()) / sum(longer.values())
                                 for value in range(game[1][0][0])]
                    self.assertEqual(foretold(game, wire, ears, deeds, row, 0), tuple(map(as_odds, means)))


class Rows(unittest.TestCase):
    def test_against_all_plays(self):
        many = 0
        for chances, ears, deeds in some_chances(544, 250):
            found = chances.heard_by_deeds(ears, deeds)
            whole = sum(sum(weights.values()) for weights in found.values())
            # All plays are gone through in order, so each row stands where its least play does.
            wanted = tuple((row, as_odds(sum(weights.values()) / whole)) for row, weights in found.items())
            self.assertEqual(rows_by(chances.game, chances.wire, ears, deeds), wanted)
            many = max(many, len(wanted))
        self.assertGreater(many, 10)

    def test_the_order_of_least_plays(self):
        wire = ((), ((YES, ("choose", ("same", ("draw",), ("is", 1)), ("is", -0), ("is", 9))),))
        rows = [row[1:] for row, _ in rows_by(DRAWS, wire, (1,), (0, 0))]
        self.assertEqual(rows, [(((9,),), ((9,),)), (((9,),), ((0,),)), (((0,),), ((9,),)), (((0,),), ((0,),))])

    def test_no_play_goes_by_the_deeds(self):
        self.assertEqual(rows_by(HUMMING, HINT, (1,), (0, 0)), ())
        self.assertEqual(rows_by(HUMMING, HINT, (1,), (1,)), ())
        raises_unfit(self, lambda: hit(HUMMING, HINT, (1,), (0, 0), 0), lambda: hit(HUMMING, HINT, (1,), (1,), 0),
                     lambda: foretold(HUMMING, HINT, (1,), (0, 0), (), 0))

    def test_too_many_rows(self):
        # 4 ** 5 * 3 rows are too many, 4 ** 5 * 2 and 3 ** 7 are not.
        for deeds, rows in (((0,) * 5 + (1,), 2048), ((3,) * 7, 2187), ((0, 0, 1, 1, 3, 3, 3), 1728)):
            self.assertEqual(len(rows_by(DRAWS, LOUD, (1,), deeds)), rows)
            self.assertEqual(hit(DRAWS, LOUD, (1,), deeds, 1), (1, 1))
        for deeds in ((0,) * 5 + (3,), (0,) * 6, (3,) * 8, (0,) * 40):
            too_many(self, lambda: rows_by(DRAWS, LOUD, (1,), deeds))
            too_many(self, lambda: hit(DRAWS, LOUD, (1,), deeds, 0))
        # Nobody else is told of the draws; and odds behind one row are never too many.
        self.assertEqual(rows_by(DRAWS, LOUD, (0,), (0,) * 40), (((((),),) * 41, (1, 1)),))
        row = (((0,),),) + (((2,),),) * 40
        self.assertEqual(odds(DRAWS, LOUD, (1,), (0,) * 40, row), (((2, 0), (1, 1)),))

    def test_just_the_number_of_rows(self):
        game, wire = self.just_so(0)
        self.assertEqual(len(rows_by(game, wire, (0,), (0,) * 6)), 3000)
        self.assertEqual(hit(game, wire, (0,), (0,) * 6, 5), (1, 1))
        game, wire = self.just_so(1)
        too_many(self, lambda: rows_by(game, wire, (0,), (0,) * 6))
        too_many(self, lambda: hit(game, wire, (0,), (0,) * 6, 0))

    def just_so(self, more):
        """A game of six ticks of draws of four, and a wire that tells so much of them that there are 3000 rows or one more.

        The state counts what was drawn, as the number with figures to the base 4, up to 4095; all from a number on are
        told alike, at the sixth tick alone.
        """
        ticks = ("cell", 5)
        size = [(4, 0)] * 5 + [(6, 0)]
        effects = tuple((cell, ("choose", ("same", ticks, ("is", cell)), ("draw",), ("cell", cell)))
                        for cell in range(5))
        deed = (None, 4, YES, effects + ((5, ("sum", ticks, ("is", 1))),), ())
        # 3000 numbers below 4096 are unlike if those from 2999 on are one.
        least = 2999 + more
        figures = [least // 4 ** (5 - k) % 4 for k in range(6)]
        values = [("cell", k) for k in range(5)] + [("draw",)]
        below = ("below", values[5], ("is", figures[5]))
        for k in reversed(range(5)):
            below = ("either", ("below", values[k], ("is", figures[k])),
                     ("both", ("same", values[k], ("is", figures[k])), below))
        last = ("both", ("same", ("was", 5), ("is", 5)), below)
        return (2, tuple(size), (deed,), ((YES,) * 6,) * 2), (self.entries(last, values), ())

    def entries(self, last, values):
        """The entries that tell all values, if last holds: fewer than seven."""
        return tuple((last, value) for value in values)

    def test_rows_of_plays_that_end_are_not_counted(self):
        # 4 ** 6 rows are begun, but the last deed is only done where the latest toss shows 0.
        deeds = (0,) * 6 + (1,)
        too_many(self, lambda: rows_by(DRAWS, LOUD, (1,), deeds))
        game = DRAWS[:2] + ((DRAWS[2][0], DRAWS[2][1], (None, 1, ("both", ("same", ("cell", 0), ("is", 0)),
                                                                 ("same", ("cell", 1), ("is", 0))), (), ()),
                            (None, 4, ("same", ("cell", 0), ("is", 0)), ((0, ("draw",)),), ())),) + DRAWS[3:]
        deeds = (3,) * 9 + (2,)
        self.assertEqual(rows_by(game, LOUD, (1,), deeds), (((((0,),),) * 11, (1, 1)),))
        self.assertEqual(hit(game, LOUD, (1,), deeds, 0), (1, 1))


class Guessers(unittest.TestCase):
    def test_against_all_guessers(self):
        for chances, ears, deeds in some_chances(545, 150):
            found = list(chances.heard_by_deeds(ears, deeds).values())
            if not found or len(found) > 5:
                continue
            whole = sum(sum(weights.values()) for weights in found)
            for cell, (size, _) in enumerate(chances.game[1]):
                right = [sum(weight for weights, named in zip(found, names) for state, weight in weights.items()
                             if state[cell] == named) for names in itertools.product(range(size), repeat=len(found))]
                self.assertEqual(hit(chances.game, chances.wire, ears, deeds, cell), as_odds(max(right) / whole))

    def test_guess_has_the_greatest_odds(self):
        equal = 0
        for chances, ears, deeds in some_chances(546, 150):
            for row, weights in chances.heard_by_deeds(ears, deeds).items():
                for cell in range(len(chances.game[1])):
                    named = guess(chances.game, chances.wire, ears, deeds, row, cell)
                    right = sum(weight for state, weight in weights.items() if state[cell] == named)
                    self.assertEqual(right, best(weights, cell))
                    equal += right * 2 == sum(weights.values())
        self.assertGreater(equal, 20)

    def test_more_ears_and_more_entries_are_never_less(self):
        for chances, ears, deeds in some_chances(547, 80):
            game, wire = chances.game, chances.wire
            if not chances.plays_by(deeds):
                continue
            told = Fraction(*hit(game, wire, ears, deeds, 0))
            self.assertGreaterEqual(Fraction(*hit(game, wire, tuple(range(game[0])), deeds, 0)), told)
            more = tuple(rule + ((YES, ("cell", 0)),) for rule in wire)
            self.assertEqual(hit(game, more, ears, deeds, 0), (1, 1))
            some = tuple(rule + ((YES, ("cell", 1)),) for rule in wire)
            self.assertGreaterEqual(Fraction(*hit(game, some, ears, deeds, 0)), told)
            begun = foretold(game, wire, ears, deeds, (), 0)
            self.assertGreaterEqual(told, max(Fraction(*one) for one in begun))
            # By rows, the greatest odds make hit together.
            means = sum(Fraction(*one) * max(Fraction(*item) for item in foretold(game, wire, ears, deeds, row, 0))
                        for row, one in rows_by(game, wire, ears, deeds))
            self.assertEqual(as_odds(means), hit(game, wire, ears, deeds, 0))

    def test_odds_of_draws_of_one_to_four(self):
        for outcomes in range(1, 5):
            game = (2, ((5, 4),), ((None, outcomes, YES, ((0, ("draw",)),), ()),), ((YES,), (YES,)))
            self.assertEqual(foretold(game, silent_wire(game), (0,), (0,), (), 0),
                             tuple((1, outcomes) if n < outcomes else (0, 1) for n in range(5)))
            self.assertEqual(hit(game, silent_wire(game), (0,), (0,), 0), (1, outcomes))
            self.assertEqual(hit(game, bare_wire(game), (0,), (0,), 0), (1, 1))

    def test_weights_are_those_of_the_model(self):
        chances = Chances(HUMMING, HINT)
        self.assertEqual(sum(weight for _, weight, _ in chances.plays_by((0, 1, 1))), 1)
        self.assertEqual(chances.heard((1,), ((0, 0), (1, 2))), BEGUN + TOSSED + HIGH)


if __name__ == "__main__":
    unittest.main()

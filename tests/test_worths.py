"""What terms are worth, when conditions hold, and what they ask."""

import unittest

from knownplay.terms import asked, holds, worth
from tests.things import ALL_WORDS, YES, Things, parts_of

MOMENT = ((1, 3, -5), (0, 2, 8), 4, 6, True)
NO = ("not", YES)
ONE = ("is", 1)
GREAT = 10 ** 399


class Worths(unittest.TestCase):
    def test_each_row(self):
        rows = {
            ("is", 0): 0, ("is", 99): 99, ("cell", 0): 1, ("cell", 1): 3, ("cell", 2): -5, ("was", 0): 0,
            ("was", 1): 2, ("was", 2): 8, ("draw",): 6, ("deed",): 4,
            ("sum", ("is", 7), ("was", 1)): 9, ("less", ("is", 7), ("was", 1)): 5, ("less", ("was", 1), ("is", 7)): -5,
            ("choose", YES, ("is", 1), ("is", 2)): 1, ("choose", NO, ("is", 1), ("is", 2)): 2,
        }
        for term, wanted in rows.items():
            self.assertEqual(worth(term, MOMENT), wanted, term)
            self.assertIs(type(worth(term, MOMENT)), int, term)

    def test_parts_stand_in_one_another(self):
        term = ("less", ("sum", ("draw",), ("deed",)), ("choose", ("below", ("cell", 2), ("is", 0)), ("was", 2), ONE))
        self.assertEqual(worth(term, MOMENT), 6 + 4 - 8)
        self.assertEqual(worth(("less", ("is", 1), ("less", ("is", 2), ("is", 9))), MOMENT), 8)

    def test_great_and_negative_numbers(self):
        moment = ((GREAT, -GREAT), (-1, GREAT), GREAT, GREAT - 1, False)
        self.assertEqual(worth(("sum", ("cell", 0), ("cell", 0)), moment), 2 * GREAT)
        self.assertEqual(worth(("sum", ("cell", 0), ("cell", 1)), moment), 0)
        self.assertEqual(worth(("less", ("cell", 1), ("was", 1)), moment), -2 * GREAT)
        self.assertEqual(worth(("less", ("was", 0), ("draw",)), moment), -GREAT)
        self.assertEqual(worth(("sum", ("deed",), ("is", 1)), moment), GREAT + 1)
        self.assertTrue(holds(("below", ("draw",), ("deed",)), moment))
        self.assertTrue(holds(("below", ("cell", 1), ("was", 0)), moment))
        self.assertFalse(holds(("same", ("draw",), ("deed",)), moment))
        self.assertTrue(holds(("same", ("sum", ("draw",), ("is", 1)), ("was", 1)), moment))

    def test_a_worth_is_not_taken_modulo_anything(self):
        term = ("is", 99)
        for _ in range(5):
            term = ("sum", term, term)
        self.assertEqual(worth(term, ((), (), 0, 0, False)), 99 * 32)
        self.assertEqual(worth(("less", ("is", 0), ("is", 99)), ((), (), 0, 0, False)), -99)

    def test_a_worth_is_at_most_parts_times_the_greatest_number_off_nought(self):
        things = Things(4)
        for _ in range(200):
            term = things.term((3, ALL_WORDS), 4)
            draw = things.random.choice((0, 5, 10 ** 6))
            moment = ((0, 7, 3), (9, 0, 99), 4, draw, False)
            bound = len(parts_of(term)) * max(99, draw)
            self.assertLessEqual(abs(worth(term, moment)), bound)


class Holding(unittest.TestCase):
    def test_each_row(self):
        one, two = ONE, ("is", 2)
        rows = {
            YES: True, ("done",): True, NO: False, ("not", NO): True,
            ("same", one, ("cell", 0)): True, ("same", one, two): False, ("same", two, one): False,
            ("below", one, two): True, ("below", two, one): False, ("below", one, one): False,
            ("both", YES, YES): True, ("both", YES, NO): False, ("both", NO, YES): False, ("both", NO, NO): False,
            ("either", YES, YES): True, ("either", YES, NO): True, ("either", NO, YES): True, ("either", NO, NO): False,
        }
        for condition, wanted in rows.items():
            self.assertIs(holds(condition, MOMENT), wanted, condition)

    def test_done_holds_if_the_moment_says_so(self):
        for done in (True, False):
            self.assertIs(holds(("done",), ((), (), 0, 0, done)), done)
            self.assertIs(holds(("not", ("done",)), ((), (), 0, 0, done)), not done)
            self.assertEqual(worth(("choose", ("done",), ("is", 1), ("is", 2)), ((), (), 0, 0, done)), 1 if done else 2)


class Asking(unittest.TestCase):
    def test_cells_and_what_they_were_are_asked(self):
        self.assertEqual(asked(("cell", 7)), (7,))
        self.assertEqual(asked(("was", 7)), (7,))
        self.assertEqual(asked(("sum", ("was", 10), ("cell", 9))), (9, 10))
        self.assertEqual(asked(("sum", ("was", 3), ("cell", 3))), (3,))
        condition = ("both", ("below", ("cell", 5), ("is", 8)), ("same", ("was", 0), ("cell", 2)))
        self.assertEqual(asked(condition), (0, 2, 5))
        self.assertEqual(asked(("choose", ("same", ("cell", 4), ("is", 0)), ("cell", 2), ("was", 1))), (1, 2, 4))

    def test_nothing_else_is_asked(self):
        for thing in (("is", 3), ("draw",), ("deed",), YES, ("done",), ("both", YES, ("same", ("is", 9), ("draw",)))):
            self.assertEqual(asked(thing), ())

    def test_all_parts_are_asked(self):
        things = Things(5)
        for _ in range(200):
            made = things.random.choice((things.term, things.condition))
            thing = made((12, ALL_WORDS), 5)
            cells = {part[1] for _, part in parts_of(thing) if part[0] in ("cell", "was")}
            self.assertEqual(asked(thing), tuple(sorted(cells)))

    def test_what_is_not_asked_has_no_say(self):
        things = Things(6)
        for _ in range(200):
            term, condition = things.term((4, ALL_WORDS), 3), things.condition((4, ALL_WORDS), 3)
            now, was = ([things.random.randrange(-3, 4) for _ in range(4)] for _ in range(2))
            deed, draw, done = things.random.randrange(3), things.random.randrange(3), things.random.random() < 0.5
            for thing, told in ((term, worth), (condition, holds)):
                here = [[now[c] if c in asked(thing) else 50 + c for c in range(4)] for now in (now, was)]
                moment = (tuple(now), tuple(was), deed, draw, done)
                other = (tuple(here[0]), tuple(here[1]), deed, draw, done)
                self.assertEqual(told(thing, moment), told(thing, other))

    def test_cells_behind_those_that_are_asked_may_lack(self):
        self.assertEqual(worth(("sum", ("cell", 1), ("was", 0)), ((4, 5), (6, 7), 0, 0, False)), 11)
        self.assertEqual(worth(("choose", YES, ("is", 4), ("draw",)), ((), (), 0, 0, False)), 4)


if __name__ == "__main__":
    unittest.main()

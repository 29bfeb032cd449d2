"""What is a term and a condition, and what is told first of what is none."""

import unittest

from knownplay.terms import condition_error, term_error
from tests.things import ALL_WORDS, ODD_VALUES, YES, ZERO, Things, parts_of, with_part

HERE = (3, ALL_WORDS)
BARE = (3, ())
WHOLE = ("part", ())

# A row of the tables of each word, and the word that a place has to let for it.
TERM_ROWS = {
    ("is", 5): None, ("cell", 1): None, ("was", 1): "was", ("draw",): "draw", ("deed",): "deed",
    ("sum", ZERO, ZERO): None, ("less", ZERO, ZERO): None, ("choose", YES, ZERO, ZERO): None,
}
CONDITION_ROWS = {
    ("yes",): None, ("done",): "done", ("same", ZERO, ZERO): None, ("below", ZERO, ZERO): None, ("not", YES): None,
    ("both", YES, YES): None, ("either", YES, YES): None,
}
SIDES = ((term_error, TERM_ROWS, CONDITION_ROWS), (condition_error, CONDITION_ROWS, TERM_ROWS))


def chained(deep):
    """A term whose deepest part has a way of so many items."""
    term = ("cell", 0)
    for _ in range(deep):
        term = ("sum", ("is", 1), term)
    return term


def full(word, leaf, deep):
    """A thing of two equal parts, down to ways of so many items."""
    return (word, full(word, leaf, deep - 1), full(word, leaf, deep - 1)) if deep else leaf


class Rows(unittest.TestCase):
    def test_each_row_stands_in_its_table_alone(self):
        for error, rows, others in SIDES:
            for value in rows:
                self.assertIsNone(error(HERE, value), value)
            for value in others:
                self.assertEqual(error(HERE, value), WHOLE, value)

    def test_words_are_let_by_the_place(self):
        for error, rows, _ in SIDES:
            for value, word in rows.items():
                self.assertEqual(error(BARE, value), WHOLE if word else None, value)
                others = tuple(other for other in ALL_WORDS if other != word)
                self.assertEqual(error((3, others), value), WHOLE if word else None, value)
                self.assertIsNone(error((3, (word,) if word else ()), value), value)

    def test_an_item_more_or_fewer_is_none(self):
        for error, rows, _ in SIDES:
            for value in rows:
                for item in (0, None, ZERO, YES, ()):
                    self.assertEqual(error(HERE, value + (item,)), WHOLE, value)
                self.assertEqual(error(HERE, value[:-1]), WHOLE, value)
                self.assertEqual(error(HERE, value[1:]), WHOLE, value)

    def test_other_kinds_in_the_place_of_a_row_are_none(self):
        for error, rows, _ in SIDES:
            for value in rows:
                others = [list(value), repr(value), value[0], (value,), [value], {value[0]: value}, value[::-1] + (1,)]
                others.extend((first,) + value[1:] for first in (None, True, 0, "", value[0].upper(), [value[0]], {}))
                others.append((value[0] + " ",) + value[1:])
                for other in others:
                    self.assertEqual(error(HERE, other), WHOLE, other)

    def test_any_value_is_none(self):
        for value in ODD_VALUES:
            self.assertEqual(term_error(HERE, value), WHOLE)
            begins = isinstance(value, tuple) and value[:1] == ("not",)
            self.assertEqual(condition_error(HERE, value), ("part", (1,) * 39) if begins else WHOLE)

    def test_what_is_nested_deeper_than_parts_may_be_is_gone_through(self):
        value = None
        for _ in range(45):
            value = ("not", value)
        self.assertEqual(condition_error(HERE, value), ("part", (1,) * 45))

    def test_parts_of_other_kinds_are_told_by_their_way(self):
        for error, rows, _ in SIDES:
            for value in rows:
                for way, part in parts_of(value)[1:]:
                    for other in (list(part), None, True, "0", (), 0, YES if part == ZERO else ZERO):
                        self.assertEqual(error(HERE, with_part(value, way, other)), ("part", way), value)


class Numbers(unittest.TestCase):
    def test_is_goes_from_0_to_99(self):
        for number in range(100):
            self.assertIsNone(term_error((0, ()), ("is", number)))
        for number in (-1, 100, -99, 10 ** 399, -(10 ** 399)):
            self.assertEqual(term_error((10 ** 9, ()), ("is", number)), WHOLE)

    def test_cells_go_from_0_to_below_their_number(self):
        for word in ("cell", "was"):
            for cells in (0, 1, 2, 6, 100, 10 ** 9):
                place = (cells, ("was",))
                for number in (-1, cells, cells + 1, 10 ** 399):
                    self.assertEqual(term_error(place, (word, number)), WHOLE)
                for number in {0, cells - 1} if cells else ():
                    self.assertIsNone(term_error(place, (word, number)))

    def test_a_number_is_an_integer_and_no_bool(self):
        for word in ("is", "cell", "was"):
            for number in (True, False, None, "1", "", (1,), [1], (), {}, ("is", 1)):
                self.assertEqual(term_error(HERE, (word, number)), WHOLE)


class Ways(unittest.TestCase):
    def test_each_part_is_told_by_its_way(self):
        things = Things(1)
        for error, made, wrong in ((term_error, things.term, YES), (condition_error, things.condition, ZERO)):
            for _ in range(60):
                thing = made(HERE, 4)
                for way, part in parts_of(thing):
                    self.assertEqual(error(HERE, with_part(thing, way, ["is", 0])), ("part", way))
                    other = ZERO if error(HERE, part) is None and error is condition_error else wrong
                    if error(HERE, part) is None:
                        self.assertEqual(error(HERE, with_part(thing, way, other)), ("part", way))

    def test_the_first_way_is_told(self):
        things = Things(2)
        for _ in range(60):
            thing = things.term(HERE, 4)
            ways = [way for way, _ in parts_of(thing)]
            self.assertEqual(ways, sorted(ways))
            for first, second in zip(ways, ways[1:]):
                if second[:len(first)] != first:
                    value = with_part(with_part(thing, first, ("is", 100)), second, None)
                    self.assertEqual(term_error(HERE, value), ("part", first))

    def test_a_part_is_judged_ahead_of_its_own_parts(self):
        self.assertEqual(term_error(HERE, ("sum", None, None)), ("part", (1,)))
        self.assertEqual(term_error(HERE, ("sum", None)), WHOLE)
        self.assertEqual(term_error(HERE, ("sum", ("less", ZERO), None)), ("part", (1,)))
        self.assertEqual(term_error(HERE, ("sum", ("less", ZERO, None), None)), ("part", (1, 2)))
        self.assertEqual(term_error(HERE, ("choose", ("not", ZERO), YES, YES)), ("part", (1, 1)))

    def test_words_that_are_not_let_are_told_by_their_way(self):
        value = ("choose", ("done",), ("sum", ("draw",), ("was", 0)), ("deed",))
        self.assertEqual(term_error((3, ()), value), ("part", (1,)))
        self.assertEqual(term_error((3, ("done",)), value), ("part", (2, 1)))
        self.assertEqual(term_error((3, ("done", "draw")), value), ("part", (2, 2)))
        self.assertEqual(term_error((3, ("done", "draw", "was")), value), ("part", (3,)))
        self.assertIsNone(term_error(HERE, value))
        self.assertEqual(term_error((0, ALL_WORDS), value), ("part", (2, 2)))


class Sizes(unittest.TestCase):
    def test_ways_of_five_items_are_let_and_ways_of_six_are_not(self):
        for deep in range(9):
            wanted = None if deep <= 5 else "deep"
            self.assertEqual(term_error(BARE, chained(deep)), wanted)
            wanted = None if deep + 1 <= 5 else "deep"
            self.assertEqual(condition_error(BARE, ("same", ZERO, chained(deep))), wanted)
            self.assertEqual(condition_error(BARE, ("below", chained(deep), ZERO)), wanted)

    def test_60_parts_are_let_and_61_are_not(self):
        sums, boths = full("sum", ZERO, 5), full("both", YES, 5)
        fewer_sums, fewer_boths = with_part(sums, (1, 1, 1, 1), ZERO), with_part(boths, (1, 1, 1, 1), YES)
        least_sums = with_part(fewer_sums, (1, 1, 1, 2), ZERO)
        values = {
            63: (sums, boths),
            61: (fewer_sums, fewer_boths),
            60: (
                with_part(least_sums, (2, 2, 2, 2), ("choose", YES, ZERO, ZERO)),
                with_part(fewer_boths, (2, 2, 2, 2), ("not", YES)),
            ),
            59: (least_sums, with_part(fewer_boths, (1, 1, 1, 2), YES)),
        }
        for many, (term, condition) in values.items():
            self.assertEqual((len(parts_of(term)), len(parts_of(condition))), (many, many))
            wanted = "parts" if many > 60 else None
            self.assertEqual((term_error(BARE, term), condition_error(BARE, condition)), (wanted, wanted))

    def test_part_is_told_ahead_of_deep_and_deep_ahead_of_parts(self):
        both = full("sum", ZERO, 6)
        self.assertEqual(term_error(BARE, both), "deep")
        self.assertEqual(term_error(BARE, with_part(both, (2, 2, 2, 2, 2, 2), None)), ("part", (2,) * 6))
        self.assertEqual(term_error(BARE, with_part(full("sum", ZERO, 5), (2,) * 5, None)), ("part", (2,) * 5))
        deeper = with_part(both, (1, 2), full("less", ("is", 100), 6))
        self.assertEqual(term_error(BARE, deeper), ("part", (1, 2) + (1,) * 6))

    def test_a_term_is_one_at_each_greater_place(self):
        things = Things(3)
        for cells, words in ((1, ()), (2, ("draw",)), (3, ("deed", "was")), (4, ALL_WORDS)):
            for made, error in ((things.term, term_error), (things.condition, condition_error)):
                for _ in range(40):
                    thing = made((cells, words), 3)
                    self.assertIsNone(error((cells, words), thing))
                    self.assertIsNone(error((cells, ALL_WORDS), thing))
                    self.assertIsNone(error((10 ** 9, words), thing))


if __name__ == "__main__":
    unittest.main()

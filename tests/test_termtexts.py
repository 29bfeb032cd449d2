"""The texts of terms and conditions, and how they are read back."""

import unittest

from knownplay.errors import BadTerm, BadText
from knownplay.terms import condition_error, term_error
from knownplay.termtexts import condition_text, read_condition, read_term, term_text
from tests.oracle import beginning, behind, is_whole, wrong_place
from tests.things import ALL_WORDS, ODD_VALUES, YES, Things

WIDE = (10 ** 9, ALL_WORDS)
SIGNS = " ()+-=<0189acdefhilnorstuwyxCT,.\n\\~"
READERS = {"term": read_term, "condition": read_condition}

TERM_TEXTS = {
    ("is", 0): "0", ("is", 10): "10", ("is", 99): "99", ("cell", 0): "c0", ("cell", 120): "c120", ("was", 3): "w3",
    ("was", 999999999): "w999999999", ("draw",): "draw", ("deed",): "deed",
    ("sum", ("is", 1), ("cell", 2)): "(1 + c2)", ("less", ("draw",), ("deed",)): "(draw - deed)",
    ("choose", YES, ("is", 1), ("is", 2)): "(if yes then 1 else 2)",
    ("choose", ("same", ("is", 1), ("is", 2)), ("sum", ("is", 3), ("is", 4)), ("choose", YES, ("is", 5), ("is", 6))):
        "(if (1 = 2) then (3 + 4) else (if yes then 5 else 6))",
    ("sum", ("choose", YES, ("is", 1), ("is", 2)), ("is", 3)): "((if yes then 1 else 2) + 3)",
    ("less", ("less", ("is", 1), ("is", 2)), ("less", ("is", 3), ("is", 4))): "((1 - 2) - (3 - 4))",
}
CONDITION_TEXTS = {
    YES: "yes", ("done",): "done",
    ("same", ("was", 1), ("is", 2)): "(w1 = 2)", ("below", ("is", 2), ("cell", 1)): "(2 < c1)",
    ("not", YES): "not yes", ("not", ("same", ("is", 1), ("is", 2))): "not (1 = 2)",
    ("both", YES, ("done",)): "(yes and done)", ("either", ("not", YES), YES): "(not yes or yes)",
    ("not", ("either", YES, YES)): "not (yes or yes)",
    ("below", ("sum", ("is", 1), ("is", 2)), ("less", ("is", 3), ("is", 4))): "((1 + 2) < (3 - 4))",
    ("both", ("both", YES, YES), ("either", YES, YES)): "((yes and yes) and (yes or yes))",
    ("same", ("choose", YES, ("is", 1), ("is", 2)), ("is", 3)): "((if yes then 1 else 2) = 3)",
    ("both", ("same", ("choose", YES, ("is", 1), ("is", 2)), ("is", 3)), YES): "(((if yes then 1 else 2) = 3) and yes)",
}


def told(reader, place, value):
    """What reader returns, the place that its BadText tells, or the pair of "bad" and the error of its BadTerm."""
    try:
        return reader(place, value)
    except BadText as error:
        return error.place
    except BadTerm as error:
        return ("bad", error.error)


class Texts(unittest.TestCase):
    def test_each_row(self):
        for term, text in TERM_TEXTS.items():
            self.assertEqual(term_text(term), text)
            self.assertEqual(told(read_term, WIDE, text), term)
        for condition, text in CONDITION_TEXTS.items():
            self.assertEqual(condition_text(condition), text)
            self.assertEqual(told(read_condition, WIDE, text), condition)

    def test_each_thing_is_read_back_from_its_text(self):
        things = Things(7)
        for place in ((1, ()), (3, ("draw",)), (12, ("deed", "was")), (1000, ALL_WORDS), WIDE):
            for _ in range(150):
                term, condition = things.term(place, 3), things.condition(place, 3)
                self.assertEqual(read_term(place, term_text(term)), term)
                self.assertEqual(read_condition(place, condition_text(condition)), condition)

    def test_things_of_any_size_that_is_let_are_read_back(self):
        things = Things(8)
        found = 0
        while found < 60:
            term, condition = things.term((4, ALL_WORDS), 5), things.condition((4, ALL_WORDS), 5)
            if term_error((4, ALL_WORDS), term) is None and condition_error((4, ALL_WORDS), condition) is None:
                self.assertEqual(read_term((4, ALL_WORDS), term_text(term)), term)
                self.assertEqual(read_condition((4, ALL_WORDS), condition_text(condition)), condition)
                found += 1

    def test_unlike_things_have_unlike_texts(self):
        things = Things(9)
        found = {}
        for _ in range(2000):
            thing = things.random.choice((things.term, things.condition))((2, ALL_WORDS), 2)
            text = term_text(thing) if term_error((2, ALL_WORDS), thing) is None else condition_text(thing)
            self.assertEqual(found.setdefault(text, thing), thing)


class BadTerms(unittest.TestCase):
    def test_what_is_not_let_at_the_place_is_told(self):
        here = (2, ())
        rows = {
            "c1": ("cell", 1), "c2": ("bad", ("part", ())), "c999999999": ("bad", ("part", ())),
            "w0": ("bad", ("part", ())), "draw": ("bad", ("part", ())), "deed": ("bad", ("part", ())),
            "(c0 + (1 - w1))": ("bad", ("part", (2, 2))), "(c5 + c6)": ("bad", ("part", (1,))),
            "(if done then c2 else w0)": ("bad", ("part", (1,))), "(if yes then c2 else w0)": ("bad", ("part", (2,))),
            "(if not not done then 1 else 1)": ("bad", ("part", (1, 1, 1))),
        }
        for text, wanted in rows.items():
            self.assertEqual(told(read_term, here, text), wanted, text)
        self.assertEqual(told(read_condition, here, "((c0 = 1) and (w0 < c0))"), ("bad", ("part", (2, 1))))
        self.assertEqual(told(read_condition, here, "done"), ("bad", ("part", ())))
        self.assertEqual(told(read_condition, (2, ("done",)), "done"), ("done",))
        self.assertEqual(told(read_term, (0, ()), "c0"), ("bad", ("part", ())))

    def test_what_is_too_deep_or_has_too_many_parts_is_told(self):
        text, parts = "c0", 1
        for deep in range(1, 9):
            text = f"({text} + 1)"
            self.assertEqual(told(read_term, (1, ()), text) == ("bad", "deep"), deep > 5)
            self.assertEqual(told(read_term, (0, ()), text), ("bad", ("part", (1,) * deep)))
        text = "c0"
        for deep in range(1, 7):
            text, parts = f"({text} - {text})", 2 * parts + 1
            wanted = ("bad", "deep") if deep == 6 else ("bad", "parts") if parts > 60 else None
            self.assertEqual(told(read_term, (1, ()), text) if wanted else None, wanted)
            self.assertEqual(told(read_condition, (1, ()), f"({text} = 0)") == ("bad", "deep"), deep >= 5)
        nots = ("not", ("not", ("not", ("not", ("not", YES)))))
        self.assertEqual(told(read_condition, (1, ()), "not " * 5 + "yes"), nots)
        self.assertEqual(told(read_condition, (1, ()), "not " * 6 + "yes"), ("bad", "deep"))

    def test_texts_as_long_as_they_may_be(self):
        self.assertEqual(told(read_condition, WIDE, "not " * 4999 + "yes"), ("bad", "deep"))
        self.assertEqual(told(read_condition, (0, ()), "not " * 4998 + "(c0 < 0)"), ("bad", ("part", (1,) * 4999)))
        left, right = "(" * 3000 + "1" + " + 1)" * 3000, "(1 + " * 3000 + "1" + ")" * 3000
        chosen = "(if yes then 1 else " * 900 + "w3" + ")" * 900
        for text in (left, right, chosen):
            self.assertEqual(told(read_term, WIDE, text), ("bad", "deep"))
            self.assertEqual(told(read_condition, WIDE, f"({text} = {text})"), ("bad", "deep"))
        self.assertEqual(told(read_term, (0, ()), chosen), ("bad", ("part", (3,) * 900)))


class BadTexts(unittest.TestCase):
    def check(self, kind, text, at):
        self.assertEqual(told(READERS[kind], WIDE, text), at, text[:200])

    def test_what_is_no_string_goes_wrong_at_0(self):
        for value in ODD_VALUES:
            if not isinstance(value, str):
                self.assertEqual(told(read_term, WIDE, value), 0)
                self.assertEqual(told(read_condition, WIDE, value), 0)

    def test_other_strings(self):
        for value in ODD_VALUES:
            if isinstance(value, str):
                for kind, reader in READERS.items():
                    long = value[:60]
                    wanted = wrong_place(beginning(kind), long)
                    self.assertEqual(told(reader, WIDE, value), len(value) if wanted == len(long) else wanted)

    def test_numbers(self):
        for text, at in (
            ("", 0), ("00", 1), ("01", 1), ("100", 2), ("999", 2), ("9 ", 1), ("-1", 0), ("+1", 0), ("c", 1),
            ("w", 1), ("c00", 2), ("c01", 2), ("c1234567890", 10), ("w1234567890", 10), ("w-1", 1), ("c 1", 1),
            ("cc", 1), ("1c", 1), ("c123456789 ", 10), ("\u0661", 0), ("c\u0661", 1), ("1\u0661", 1), ("\u00b2", 0),
        ):
            self.check("term", text, at)
        self.assertEqual(told(read_term, WIDE, "c123456789"), ("cell", 123456789))
        self.assertEqual(told(read_term, WIDE, "0"), ("is", 0))

    def test_words(self):
        for kind, text, at in (
            ("term", "d", 1), ("term", "de", 2), ("term", "do", 1), ("term", "done", 1), ("condition", "de", 1),
            ("condition", "draw", 1), ("condition", "don", 3), ("term", "deedy", 4), ("condition", "yes ", 3),
            ("condition", "Yes", 0), ("condition", "not", 3), ("condition", "nott", 3), ("condition", "not ", 4),
            ("condition", "not 1", 4), ("condition", "not not no", 10), ("condition", "not  yes", 4),
            ("term", "yes", 0), ("term", "not yes", 0), ("condition", "0", 0), ("condition", "c0", 0),
            ("condition", " yes", 0),
        ):
            self.check(kind, text, at)

    def test_brackets(self):
        for kind, text, at in (
            ("term", "(", 1), ("term", ")", 0), ("term", "()", 1), ("term", "(1)", 2), ("term", "(1 ", 3),
            ("term", "(1 +", 4), ("term", "(1 + 2))", 7), ("term", "(1+2)", 2), ("term", "( 1 + 2)", 1),
            ("term", "(1 + yes)", 5), ("term", "(yes and yes)", 1), ("term", "(d", 2), ("term", "(do", 2),
            ("term", "(n", 1), ("term", "(1 a", 3), ("condition", "(d", 2), ("condition", "(do", 3),
            ("condition", "(de", 3), ("condition", "(i", 1), ("condition", "(if", 1), ("condition", "((i", 3),
            ("condition", "((if yes then 1 else 2) and", 24), ("condition", "((1 + 2) + ", 9),
            ("condition", "((1 = 2) = ", 9), ("condition", "((1 + 2) = yes", 11), ("condition", "(yes + ", 5),
            ("condition", "(yes a", 6), ("condition", "(yes and 1", 9), ("condition", "(1 and 2)", 3),
            ("condition", "(1 = 2", 6), ("condition", "(1 = yes", 5), ("condition", "(1 = 2) and yes", 7),
            ("condition", "(yes and yes and yes)", 12), ("condition", "(yes aor yes)", 6),
            ("condition", "(yes or not 1)", 12),
        ):
            self.check(kind, text, at)

    def test_choosing(self):
        for kind, text, at in (
            ("term", "(if", 3), ("term", "(if ", 4), ("term", "(if 1", 4), ("term", "(iff", 3),
            ("term", "(if yes", 7), ("term", "(if yes 1", 8), ("term", "(if yes then", 12),
            ("term", "(if yes then yes", 13), ("term", "(if yes then 1)", 14), ("term", "(if yes then 1 then", 15),
            ("term", "(if yes else", 8), ("term", "(if yes then 1 else 2", 21),
            ("term", "(if yes then 1 else 2 else 3)", 21), ("term", "(if (1 + 2) then", 7),
            ("term", "(if (if yes", 5), ("term", "(if ((if yes then 1 else 2) = 1) then c0 else w0", 48),
            ("term", "((if yes then 1 else 2) = 1)", 24),
        ):
            self.check(kind, text, at)

    def test_all_short_texts(self):
        for kind, reader in READERS.items():
            todo = [("", beginning(kind))]
            for text, chains in todo:
                whole = is_whole(chains)
                self.assertEqual(isinstance(told(reader, WIDE, text), tuple), whole, text)
                self.check(kind, text, reader(WIDE, text) if whole else len(text))
                for sign in SIGNS:
                    then = behind(chains, sign)
                    if then and len(text) < 6 and (sign not in "89" or len(text) < 3):
                        todo.append((text + sign, then))
                    elif not then:
                        self.check(kind, text + sign, len(text))

    def test_texts_that_are_cut_lengthened_or_spoilt_at_any_sign(self):
        things = Things(10)
        for kind, made in (("term", things.term), ("condition", things.condition)):
            for deep in (0, 1, 2, 2, 3, 3, 3):
                thing = made((12, ALL_WORDS), deep)
                text = term_text(thing) if kind == "term" else condition_text(thing)
                chains = beginning(kind)
                for at, sign in enumerate(text):
                    self.check_spoilt(kind, text, at, chains)
                    chains = behind(chains, sign)
                for sign in SIGNS + "2":
                    wanted = wrong_place(chains, sign)
                    if wanted is not None:
                        self.check(kind, text + sign, len(text) + wanted)

    def check_spoilt(self, kind, text, at, chains):
        """Checks text cut at a place, and with another sign, a sign more or none there; chains tell what is ahead."""
        for end in [text[at + 1:], ""] + [sign + text[at + more:] for sign in SIGNS for more in (0, 1)]:
            wanted = wrong_place(chains, end)
            if wanted is not None:
                self.check(kind, text[:at] + end, at + wanted)
            else:
                self.assertIsInstance(told(READERS[kind], WIDE, text[:at] + end), tuple)

    def test_long_texts_with_many_brackets(self):
        self.check("term", "(" * 20000, 20000)
        self.check("condition", "(" * 20000, 20000)
        self.check("condition", "not " * 5000, 20000)
        self.check("condition", "not " * 4999 + "nut", 19997)
        self.check("term", "(" * 9999 + ")", 9999)
        self.check("term", "(1 + " * 3000 + "1" + ")" * 2999, 18000)
        self.check("term", "(1 + " * 3000 + "1" + ")" * 3001, 18001)
        self.check("term", "(" * 3000 + "1" + " + 1)" * 2999 + " = 1)", 3001 + 5 * 2999 + 1)
        self.check("condition", "(" * 3000 + "1" + " + 1)" * 3000, 3001 + 5 * 2999 + 1)
        text = "(" * 2000 + "1" + " + 1)" * 1000 + " < 2)" + " and yes)" * 998
        self.check("condition", text + " = 1)", len(text) + 1)
        self.check("condition", text + " or 1)", len(text) + 4)
        text = "(" * 2000 + "(if not yes then w1 else 2)" + " - c0)" * 1999
        self.check("condition", text + " or", len(text) + 1)
        self.check("condition", text + " = (yes", len(text) + 4)
        self.check("term", "(if (1 = " * 2000 + "yes", 18000)

    def test_brackets_spoilt_far_within(self):
        for kind, text in (
            ("condition", "(" * 40 + "1" + " + c1)" * 20 + " < 2)" + " and yes)" * 19),
            ("term", "(if ((" * 8 + "1" + " + 1) = 1) then 1 else w0)" * 8),
            ("condition", "(yes or not " * 12 + "(w1 = (1 - 2))" + ")" * 12),
        ):
            chains = beginning(kind)
            self.assertIsNone(wrong_place(chains, text))
            for at, sign in enumerate(text):
                for end in [text[at + 1:], ""] + [other + text[at + 1:] for other in " ()+=<ai1y"]:
                    wanted = wrong_place(chains, end)
                    if wanted is not None:
                        self.check(kind, text[:at] + end, at + wanted)
                chains = behind(chains, sign)


if __name__ == "__main__":
    unittest.main()

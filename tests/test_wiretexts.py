"""The texts of wires, and the first line of a text that is wrong."""

import functools
import itertools
import re
import unittest

from knownplay.errors import BadText, BadWire
from knownplay.knowngames import known_game, known_names
from knownplay.knownwires import bare_wire, plain_wire, silent_wire
from knownplay.termtexts import condition_text, read_condition, read_term, term_text
from knownplay.wires import wire_error
from knownplay.wiretexts import read_wire, wire_text
from tests.oracle import beginning, wrong_place
from tests.test_plays import some_games
from tests.test_wires import DEEP, DEEP_TERM, OWN, WIDE, WIDE_TERM, first_fault
from tests.things import ALL_WORDS, HIDE, ODD_VALUES, YES, ZERO, Things

WIDEST = (10 ** 9, ALL_WORDS)
TEXT = "to\nif yes tell c0\nif (c0 = 1) tell (if done then deed else w1)\nto\nif not (draw < 2) tell (c1 - 3)"
# Lines that may stand behind "to", whether or not they tell of entries of HIDE, and lines that never may.
LINES = ("to", "if yes tell 0", "if not yes tell c999999999", "if (w9 < draw) tell deed", "if done tell (99 + 0)",
         "if yes tell 100", "if yes tell 999999999")
NO_LINES = ("", " ", "to ", " to", "TO", "to to", "t", "if", "if ", "if yes", "if yes tell", "if yes tell ",
            "yes tell 0", "if yes tell 0 ", " if yes tell 0", "if  yes tell 0", "if yes  tell 0", "if yes tell  0",
            "if tell 0", "if  tell 0", "if yes tells 0", "if yes tell yes", "if 0 tell 0", "if yes tell c1000000000",
            "if yes tell 00", "if (c0 = 1 tell 0", "if (c0 + 1) tell 0", "if yes tell c0 + 1", "if yes tell (c0 = 1)",
            "if yes tell 0 tell 0", "if yes tell (if yes then 0 else 1", "see yes", "if yes\ttell 0", "set 0 to 1",
            "tell 0 if yes", "if yes tell 0 if yes tell 0", f"if {condition_text(DEEP)} tell 0",
            f"if {condition_text(WIDE)} tell 0", f"if yes tell {term_text(DEEP_TERM)}",
            f"if yes tell {term_text(WIDE_TERM)}")


@functools.lru_cache(2000)
def is_line(line):
    """Whether a line is that of an entry, by the second reader; but for four, none of the tests' is deep or wide."""
    found = re.fullmatch(r"if (.*?) tell (.*)", line)
    if not found or line in NO_LINES[-4:]:
        return False
    when, what = found.groups()
    texts = wrong_place(beginning("condition"), when) is None and wrong_place(beginning("term"), what) is None
    return texts and not any(int(number) > 99 for number in re.findall(r"(?<![cw0-9])[0-9]+", line))


def wanted(game, text):
    """What reading a text comes to: ("wire", wire), ("line", number) or ("error", error)."""
    rules = []
    for number, line in enumerate(text.split("\n")):
        if line == "to":
            rules.append(())
        elif rules and is_line(line):
            when, what = line[len("if "):].split(" tell ")
            rules[-1] += ((read_condition(WIDEST, when), read_term(WIDEST, what)),)
        else:
            return ("line", number)
    error = first_fault(game, tuple(rules))
    return ("wire", tuple(rules)) if error is None else ("error", error)


class Reading(unittest.TestCase):
    def check(self, game, text):
        """The text is read, or found wrong, as wanted tells; returns how."""
        kind, what = wanted(game, text)
        if kind == "wire":
            self.assertEqual(read_wire(game, text), what, text)
            self.assertEqual(wire_text(what), text)
        else:
            with self.assertRaises(BadText if kind == "line" else BadWire, msg=text) as caught:
                read_wire(game, text)
            self.assertEqual(vars(caught.exception), {"place" if kind == "line" else "error": what}, text)
        return kind

    def test_the_rows_of_the_tests_are_what_they_are_called(self):
        self.assertEqual([line for line in LINES[1:5] if not is_line(line)], [])
        self.assertEqual([line for line in NO_LINES + LINES[5:] if is_line(line)], [])

    def test_each_line_in_each_place(self):
        for line in LINES + NO_LINES:
            lines = TEXT.split("\n")
            for at in range(len(lines) + 1):
                self.check(HIDE, "\n".join(lines[:at] + [line] + lines[at:]))
                self.check(HIDE, "\n".join(lines[:at] + [line] + lines[at + 1:]))
                self.check(HIDE, "\n".join(lines[:at] + [line]))
            self.check(HIDE, line)

    def test_two_lines_put_in(self):
        lines = TEXT.split("\n")
        for one, other in itertools.product(LINES + NO_LINES[:20:4], repeat=2):
            for at, behind in itertools.combinations(range(len(lines) + 1), 2):
                self.check(HIDE, "\n".join(lines[:at] + [one] + lines[at:behind] + [other] + lines[behind:]))

    def test_lines_left_out_and_exchanged(self):
        things = Things(71)
        for game in [HIDE] + some_games(71, 10):
            text = wire_text(things.wire(game, 2))
            lines = text.split("\n")
            self.assertEqual(self.check(game, text), "wire")
            for at in range(len(lines)):
                self.check(game, "\n".join(lines[:at] + lines[at + 1:]))
                self.check(game, "\n".join(lines[:at]))
                self.check(game, "\n".join(lines[at:]))
                for behind in range(at):
                    turned = list(lines)
                    turned[at], turned[behind] = lines[behind], lines[at]
                    self.check(game, "\n".join(turned))

    def test_a_text_spoilt_at_each_sign(self):
        for at in range(len(TEXT) + 1):
            self.check(HIDE, TEXT[:at])
            self.check(HIDE, TEXT[:at] + TEXT[at + 1:])
            for sign in " (\n0c1twx)":
                self.check(HIDE, TEXT[:at] + sign + TEXT[at:])
                self.check(HIDE, TEXT[:at] + sign + TEXT[at + 1:])

    def test_too_deep_and_too_wide_lines_are_no_lines(self):
        for line in NO_LINES[-4:]:
            for lines in (["to", line, "to"], ["to", "to", line], ["to", "to", line, "x"]):
                with self.assertRaises(BadText) as caught:
                    read_wire(HIDE, "\n".join(lines))
                self.assertEqual(caught.exception.place, lines.index(line))

    def test_lines_that_tell_of_no_wire(self):
        rows = (
            ("to", "form"), ("to\nto\nto", "form"), ("to\nto\nif yes tell c2", ("what", 1, 0, ("part", ()))),
            ("to\nif (c0 = c5) tell 0\nto", ("when", 0, 0, ("part", (2,)))),
            ("to\nif (w7 = 0) tell c9\nto", ("when", 0, 0, ("part", (1,)))),
            ("to\nif yes tell 0\nif yes tell (w0 + w2)\nto\nif yes tell c9", ("what", 0, 1, ("part", (2,)))),
            ("to\nto" + "\nif yes tell 0" * 8, ("rule", 1)), ("to" + "\nif yes tell c7" * 8 + "\nto", ("rule", 0)),
            ("to\nto" + "\nif yes tell 0" * 7 + "\nto", "form"), ("to\nif yes tell c2\nto" + "\nif yes tell 0" * 8,
                                                                   ("what", 0, 0, ("part", ()))),
        )
        for text, error in rows:
            self.assertEqual(wanted(HIDE, text), ("error", error))
            self.check(HIDE, text)
        self.assertEqual(len(read_wire(HIDE, "to\nto" + "\nif yes tell 0" * 7)[1]), 7)

    def test_values_of_other_kinds(self):
        for value in ODD_VALUES + (OWN, ("to", "to"), ["to", "to"], {"to": "to"}, (TEXT,)):
            with self.assertRaises(BadText, msg=value) as caught:
                read_wire(HIDE, value)
            self.assertEqual(vars(caught.exception), {"place": 0}, value)


class Texts(unittest.TestCase):
    def test_each_wire_is_read_from_its_text(self):
        things = Things(72)
        for game in some_games(72, 60):
            for wire in (things.wire(game), things.wire(game, 4), bare_wire(game), plain_wire(game), silent_wire(game)):
                text = wire_text(wire)
                lines = []
                for rule in wire:
                    lines += ["to"] + [f"if {condition_text(when)} tell {term_text(what)}" for when, what in rule]
                self.assertEqual(text.split("\n"), lines)
                self.assertEqual(repr(read_wire(game, text)), repr(wire))

    def test_the_texts_of_known_wires(self):
        rule = "to\nif yes tell c0\nif yes tell c1"
        self.assertEqual(wire_text(bare_wire(HIDE)), rule + "\n" + rule)
        self.assertEqual(wire_text(silent_wire(known_game("bid"))), "to\nto\nto")
        for name in known_names():
            game = known_game(name)
            self.assertEqual(read_wire(game, wire_text(plain_wire(game))), plain_wire(game))
        self.assertEqual(wire_text((((YES, ZERO),), ())), "to\nif yes tell 0\nto")

    def test_a_wire_of_one_game_may_be_none_of_another(self):
        for name in known_names():
            game = known_game(name)
            text = wire_text(plain_wire(game))
            if wire_error(HIDE, plain_wire(game)) is not None:
                self.assertRaises(BadWire, read_wire, HIDE, text)
            else:
                self.assertEqual(read_wire(HIDE, text), plain_wire(game))


if __name__ == "__main__":
    unittest.main()

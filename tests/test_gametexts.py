"""The texts of games, and how they are read back."""

import re
import unittest

from knownplay.errors import BadGame, BadTerm, BadText
from knownplay.games import game_error
from knownplay.gametexts import game_text, read_game
from knownplay.termtexts import read_condition, read_term
from tests.things import ALL_WORDS, CARD, ODD_VALUES, YES, ZERO, Things

WIDE = (10 ** 9, ALL_WORDS)
NUMBER = "(?:0|[1-9][0-9]{0,8})"

# A line of each kind, with groups for its condition or term, and those that may come behind it.
LINES = {
    "players": (f"players {NUMBER}", ("cell",)),
    "cell": (f"cell {NUMBER} {NUMBER}", ("cell", "deed")),
    "deed": (
        f"deed (?:-|{NUMBER}) {NUMBER} (?:-|{NUMBER}(?:,{NUMBER})*) if (?P<condition>.*)", ("set", "deed", "sights"),
    ),
    "set": (f"set {NUMBER} to (?P<term>.*)", ("set", "deed", "sights")),
    "sights": ("sights", ("see",)),
    "see": ("see (?P<condition>.*)", ("see", "sights")),
}

RICH = (
    3, ((2, 1), (6, 5), (3, 0)),
    (
        (2, 4, ("below", ("cell", 1), ("is", 99)), ((0, ("draw",)), (2, ("sum", ("cell", 1), ("draw",)))), (0, 1, 2)),
        (None, 1, YES, (), ()),
        (0, 2, ("not", ("same", ("cell", 0), ZERO)), ((1, ("choose", YES, ("is", 10), ("cell", 2))),), (0,)),
    ),
    ((YES, YES, YES), (("same", ("cell", 2), ("cell", 0)), ("not", YES), YES), (YES, ("either", YES, YES), YES)),
)
RICH_TEXT = """players 3
cell 2 1
cell 6 5
cell 3 0
deed 2 4 0,1,2 if (c1 < 99)
set 0 to draw
set 2 to (c1 + draw)
deed - 1 - if yes
deed 0 2 0 if not (c0 = 0)
set 1 to (if yes then 10 else c2)
sights
see yes
see yes
see yes
sights
see (c2 = c0)
see not yes
see yes
sights
see yes
see (yes or yes)
see yes"""
PLAIN_GAME = (2, ((2, 0),), ((0, 1, YES, ((0, ("is", 1)),), (0,)),), ((YES,), (YES,)))
PLAIN = ["players 2", "cell 2 0", "deed 0 1 0 if yes", "set 0 to 1", "sights", "see yes", "sights", "see yes"]


def told(value):
    """The game that is read, the line that BadText tells, or the pair of "bad" and the error of BadGame."""
    try:
        return read_game(value)
    except BadText as error:
        return error.place
    except BadGame as error:
        return ("bad", error.error)


def stands(word, line):
    """Whether line is one of this kind, by the patterns above."""
    found = re.fullmatch(LINES[word][0], line, re.DOTALL)
    if found is None:
        return False
    try:
        if "condition" in found.groupdict():
            read_condition(WIDE, found["condition"])
        if "term" in found.groupdict():
            read_term(WIDE, found["term"])
    except (BadText, BadTerm):
        return False
    return True


def wrong_line(text):
    """The line at which text goes wrong, None if there is none, by the patterns above."""
    lines = text.split("\n")
    due = ("players",)
    for number, line in enumerate(lines):
        kinds = [word for word in due if stands(word, line)]
        if not kinds:
            return number
        last = kinds[0]
        due = LINES[last][1]
    return None if last == "see" else len(lines)


class Texts(unittest.TestCase):
    def test_a_text_has_its_lines(self):
        self.assertEqual(game_text(RICH), RICH_TEXT)
        self.assertEqual(told(RICH_TEXT), RICH)
        self.assertEqual(told("\n".join(PLAIN)), PLAIN_GAME)

    def test_each_game_is_read_back_from_its_text(self):
        things = Things(16)
        for _ in range(150):
            value = things.game()
            self.assertEqual(told(game_text(value)), value)

    def test_great_games_are_read_back(self):
        things = Things(17)
        found = 0
        while found < 10:
            value = things.game(deep=4)
            if game_error(value) is None:
                self.assertEqual(told(game_text(value)), value)
                found += 1

    def test_unlike_games_have_unlike_texts(self):
        things = Things(18)
        found = {}
        for _ in range(300):
            value = things.game(deep=1)
            self.assertEqual(found.setdefault(game_text(value), value), value)
        self.assertGreater(len(found), 250)


class BadTexts(unittest.TestCase):
    def check(self, lines, wanted):
        text = lines if isinstance(lines, str) else "\n".join(lines)
        self.assertEqual(told(text), wanted, text)

    def check_patterns(self, lines):
        """Checks a text against what the patterns tell of its lines."""
        wanted = wrong_line("\n".join(lines))
        found = told("\n".join(lines))
        if wanted is None:
            self.assertIsInstance(found, tuple, lines)
        else:
            self.assertEqual(found, wanted, lines)

    def test_what_is_no_string_is_bad_at_0(self):
        for value in ODD_VALUES + (CARD, PLAIN, tuple(PLAIN), ["\n".join(PLAIN)]):
            self.assertEqual(told(value), 0)

    def test_beginnings(self):
        for many in range(1, len(PLAIN) + 1):
            self.check(PLAIN[:many], {6: ("bad", "sights"), 8: PLAIN_GAME}.get(many, many))
            self.check(PLAIN[:many] + [""], many)
            self.check(PLAIN[:many] + [" "], many)
        for text in ("", "\n", " ", "player 2", "game", "cell 2 0", "\n" + "\n".join(PLAIN), " " + "\n".join(PLAIN)):
            self.check(text, 0)

    def test_lines_left_out_put_in_twice_or_exchanged(self):
        for lines in (PLAIN, RICH_TEXT.split("\n")):
            for at in range(len(lines)):
                self.check_patterns(lines[:at] + lines[at + 1:])
                for line in PLAIN + ["", "see", "note", "deed", "SEE yes", "sights ", " see yes"]:
                    self.check_patterns(lines[:at] + [line] + lines[at:])
                    self.check_patterns(lines[:at] + [line] + lines[at + 1:])
                for other in range(at):
                    exchanged = list(lines)
                    exchanged[at], exchanged[other] = lines[other], lines[at]
                    self.check_patterns(exchanged)

    def test_lines_that_may_not_follow(self):
        for lines, wanted in (
            (PLAIN[:1] + PLAIN[2:], 1), (PLAIN[:1] + PLAIN[:1] + PLAIN[1:], 1), (PLAIN[:2] + PLAIN[3:], 2),
            (PLAIN[:2] + PLAIN[4:], 2), (PLAIN[:3] + PLAIN[1:], 3), (PLAIN[:4] + PLAIN[5:], 4),
            (PLAIN[:5] + PLAIN[4:], 5), (PLAIN[:5] + PLAIN[3:], 5), (PLAIN + PLAIN, 8), (PLAIN + PLAIN[3:], 8),
            (PLAIN + PLAIN[2:], 8), (PLAIN + ["sights"], 9), (PLAIN[:5], 5), (PLAIN[1:], 0), (PLAIN[::-1], 0),
        ):
            self.check(lines, wanted)

    def test_lines_that_are_spoilt_at_any_sign(self):
        signs = " -,0129\n()ces<x\\"
        for number, line in enumerate(PLAIN[:6] + ["deed - 3 0,1,2 if (w0 < c12)", "see not (draw = deed)"]):
            lines = PLAIN if number < 6 else PLAIN[:2] + [line] + PLAIN[3:] if number == 6 else PLAIN[:-1] + [line]
            place = lines.index(line)
            for at in range(len(line) + 1):
                self.check_patterns(lines[:place] + [line[:at] + line[at + 1:]] + lines[place + 1:])
                self.check_patterns(lines[:place] + [line[:at]] + lines[place + 1:])
                for sign in signs:
                    self.check_patterns(lines[:place] + [line[:at] + sign + line[at:]] + lines[place + 1:])
                    self.check_patterns(lines[:place] + [line[:at] + sign + line[at + 1:]] + lines[place + 1:])

    def test_numbers(self):
        for number in (
            "01", "00", "1000000000", "0000000001", "-1", "+1", "", "x", "1.0", "1,", "\u0661", "\u00b2", "1_0",
        ):
            self.check([f"players {number}"] + PLAIN[1:], 0)
            self.check(PLAIN[:1] + [f"cell {number} 0"] + PLAIN[2:], 1)
            self.check(PLAIN[:1] + [f"cell 2 {number}"] + PLAIN[2:], 1)
            self.check(PLAIN[:2] + [f"deed {number} 1 0 if yes"] + PLAIN[3:], 2)
            self.check(PLAIN[:2] + [f"deed 0 {number} 0 if yes"] + PLAIN[3:], 2)
            self.check(PLAIN[:2] + [f"deed 0 1 {number} if yes"] + PLAIN[3:], 2)
            self.check(PLAIN[:2] + [f"deed 0 1 0,{number} if yes"] + PLAIN[3:], 2)
            self.check(PLAIN[:3] + [f"set {number} to 1"] + PLAIN[4:], 3)
        for seen in ("-,0", "0,-", "--", "0,,1", ",0", "0,", "0, 1", "0;1"):
            self.check(PLAIN[:2] + [f"deed 0 1 {seen} if yes"] + PLAIN[3:], 2)
        self.check(PLAIN[:1] + ["cell - 0"] + PLAIN[2:], 1)

    def test_blanks_and_words(self):
        for line in (
            "deed 0 1 0 If yes", "deed 0 1 0 if", "deed 0 1 0 if ", "deed 0 1 0  if yes", "deed  0 1 0 if yes",
            "deed 0 1 0 if  yes", "deed 0 1 0 if yes ", " deed 0 1 0 if yes", "deed 0 1 if yes", "deed 0 1 0 yes",
            "deed 0 1 0 1 if yes", "deed 0 1 0 when yes", "deed", "deed ", "deeds 0 1 0 if yes", "deed 0 1 0 if 1",
        ):
            self.check(PLAIN[:2] + [line] + PLAIN[3:], 2)
        for line in (
            "set 0 1", "set 0 to", "set 0 to ", "set 0  to 1", "set 0 to  1", "set 0 to 1 ", "set to 1", "set 0 To 1",
            "set 0 to yes", "set 0 to (1+1)", "set 0 to 100",
        ):
            self.check(PLAIN[:3] + [line] + PLAIN[4:], 3)
        for line in ("sights ", "sights 1", "sight", "Sights", " sights", "sightssee yes"):
            self.check(PLAIN[:4] + [line] + PLAIN[5:], 4)
        for line in ("see", "see ", "see  yes", "see yes ", "see 1", "see c0", "sees yes", "see (yes and yes"):
            self.check(PLAIN[:5] + [line] + PLAIN[6:], 5)
        for line in ("players 2 ", "players  2", "players", "players ", "players 2 2", "Players 2", "players - "):
            self.check([line] + PLAIN[1:], 0)

    def test_conditions_and_terms_that_are_read_at_no_place(self):
        sums, wide = "0", "0"
        for deep in range(1, 7):
            sums, wide = f"({sums} + 0)", f"({wide} - {wide})"
            lines = PLAIN[:3] + [f"set 0 to {sums}"] + PLAIN[4:]
            self.assertEqual(told("\n".join(lines)) == 3, deep == 6)
            lines = PLAIN[:3] + [f"set 0 to {wide}"] + PLAIN[4:]
            self.assertEqual(told("\n".join(lines)) == 3, deep >= 5)
        self.check(PLAIN[:2] + ["deed 0 1 0 if " + "not " * 6 + "yes"] + PLAIN[3:], 2)
        self.check(PLAIN[:7] + ["see " + "not " * 6 + "yes"], 7)
        self.check(PLAIN[:7] + ["see " + "not " * 4900 + "yes"], 7)

    def test_the_first_bad_line_is_told(self):
        for at in range(len(PLAIN)):
            self.check(PLAIN[:at] + ["x"] + ["y"] * 3, at)
            self.check(PLAIN[:at] + ["x"] + PLAIN[at:], at)
        self.check(["players 9"] + PLAIN[1:4] + ["x"], 4)
        self.check(["players 9"] + PLAIN[1:4], 4)


class BadGames(unittest.TestCase):
    def check(self, lines, error):
        self.assertEqual(told("\n".join(lines)), ("bad", error))

    def test_lines_that_tell_no_game(self):
        rows = {
            0: (
                ("players 1", "players"), ("players 5", "players"), ("players 999999999", "players"),
                ("players 3", "sights"),
            ),
            1: (("cell 1 0", ("cell", 0)), ("cell 2 2", ("cell", 0)), ("cell 7 0", ("cell", 0))),
            2: (
                ("deed 2 1 2 if yes", ("deed", 0, "doer")), ("deed 0 0 0 if yes", ("deed", 0, "outcomes")),
                ("deed 0 5 0 if yes", ("deed", 0, "outcomes")), ("deed 0 1 - if yes", ("deed", 0, "seen")),
                ("deed 0 1 1 if yes", ("deed", 0, "seen")), ("deed - 1 2 if yes", ("deed", 0, "seen")),
                ("deed - 1 0,0 if yes", ("deed", 0, "seen")), ("deed - 1 1,0 if yes", ("deed", 0, "seen")),
                ("deed 0 1 0 if done", ("deed", 0, ("guard", ("part", ())))),
                ("deed 0 1 0 if (c1 = 0)", ("deed", 0, ("guard", ("part", (1,))))),
                ("deed 0 1 0 if (c0 = w0)", ("deed", 0, ("guard", ("part", (2,))))),
                ("deed 0 1 0 if not (draw = c0)", ("deed", 0, ("guard", ("part", (1, 1))))),
            ),
            3: (
                ("set 1 to 1", ("deed", 0, ("effect", 0))), ("set 0 to 1\nset 0 to 1", ("deed", 0, ("effect", 1))),
                ("set 0 to deed", ("deed", 0, ("term", 0, ("part", ())))),
                ("set 0 to (draw + w0)", ("deed", 0, ("term", 0, ("part", (2,))))),
                ("set 0 to c999999999", ("deed", 0, ("term", 0, ("part", ())))),
            ),
            4: (("sights\nsee yes\nsights", "sights"), ("deed - 1 9 if yes\nsights", ("deed", 1, "seen"))),
            5: (("see yes\nsee yes", ("sights", 0)), ("see (w0 = 0)", ("sight", 0, 0, ("part", (1,))))),
            7: (("see yes\nsee yes", ("sights", 1)), ("see done", ("sight", 1, 0, ("part", ())))),
        }
        for at, told_there in rows.items():
            for line, error in told_there:
                self.check(PLAIN[:at] + [line] + PLAIN[at + 1:], error)

    def test_too_many_of_each(self):
        self.check(PLAIN[:1] + ["cell 2 0"] * 7 + PLAIN[2:], "cells")
        self.check(PLAIN[:2] + ["deed - 1 - if yes"] * 9 + PLAIN[4:], "deeds")
        self.check(PLAIN + ["sights", "see yes"], "sights")
        self.check(PLAIN + ["see yes"] * 2000, ("sights", 1))

    def test_what_is_told_is_what_the_game_lacks(self):
        things = Things(19)
        for _ in range(60):
            value = things.game(deep=1)
            players, cells, deeds, sights = value
            for other in (
                (5, cells, deeds, sights), (players, cells + ((2, 3),), deeds, sights),
                (players, cells, deeds * 9, sights), (players, cells, deeds, sights[1:]),
                (players, cells, deeds, sights[:-1] + ((YES,) * 7,)), (players, cells[:-1] + ((9, 9),), deeds, sights),
            ):
                self.check(game_text(other).split("\n"), game_error(other))


if __name__ == "__main__":
    unittest.main()

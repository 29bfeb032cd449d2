"""The texts of plays and of views, and where a text of a play goes wrong."""

import re
import unittest

from knownplay.errors import BadText
from knownplay.knowngames import known_game
from knownplay.playtexts import play_text, read_play, view_text
from knownplay.views import view
from tests.model import Model
from tests.test_plays import some_games
from tests.things import ODD_VALUES, Things

NUMBER = "(?:0|[1-9][0-9]{0,8})"
PAIR = f"{NUMBER}:{NUMBER}"
WHOLE = re.compile(rf"(?:{PAIR}(?: {PAIR})*)?")
BEGINNING = re.compile(rf"(?:{PAIR} )*(?:{NUMBER}(?::{NUMBER}?)?)?")
SIGNS = "0129 :;,.-+x\n/\t_"


def wrong_place(text):
    """The place that BadText has to tell of a text, None if it is a text of pairs."""
    if WHOLE.fullmatch(text):
        return None
    for at in range(len(text)):
        if not BEGINNING.fullmatch(text[:at + 1]):
            return at
    return len(text)


class Plays(unittest.TestCase):
    def check(self, text):
        """The text is read, or goes wrong, where the rows above tell."""
        wanted = wrong_place(text)
        if wanted is None:
            pairs = tuple(tuple(map(int, pair.split(":"))) for pair in text.split(" ")) if text else ()
            self.assertEqual(repr(read_play(text)), repr(pairs), text)
        else:
            with self.assertRaises(BadText, msg=text) as caught:
                read_play(text)
            self.assertEqual(vars(caught.exception), {"place": wanted}, text)

    def test_texts_of_plays(self):
        self.assertEqual(play_text(((10, 3), (0, 0))), "10:3 0:0")
        self.assertEqual(play_text(((7, 1),)), "7:1")
        self.assertEqual(play_text(()), "")

    def test_each_play_is_read_from_its_text(self):
        things = Things(31)
        for game in some_games(31, 30):
            for many in (0, 1, 2, 9):
                play = Model(game).some_play(things.random, many)
                self.assertEqual(play_text(play), " ".join(f"{deed}:{drawn}" for deed, drawn in play))
                self.assertEqual(read_play(play_text(play)), play)

    def test_pairs_of_no_game_are_read(self):
        self.assertEqual(read_play("999999999:0 0:123456789"), ((999999999, 0), (0, 123456789)))
        self.assertEqual(read_play("8:4"), ((8, 4),))

    def test_texts_cut_lengthened_and_spoilt(self):
        for text in ("", "0:2 2:0 1:0", "10:0", "0:0 0:0", "123456789:987654321 4:100200300", "9:9 90:90"):
            for at in range(len(text) + 1):
                self.check(text[:at])
                self.check(text[at:])
                self.check(text[:at] + text[at + 1:])
                for sign in SIGNS:
                    self.check(text[:at] + sign + text[at:])
                    self.check(text[:at] + sign + text[at + 1:])

    def test_all_short_rows_of_signs(self):
        rows = [""]
        for _ in range(5):
            rows = [row + sign for row in rows for sign in "01: x"] + [""]
            for row in rows:
                self.check(row)

    def test_numbers_have_at_most_nine_figures(self):
        for text, place in (("1234567890:0", 9), ("0:1234567890", 11), ("1:1 1000000000", 13), ("00:0", 1), ("01:0", 1),
                            ("0:00", 3), ("1:0 00:1", 5), ("+1:0", 0), ("-1:0", 0), (" 0:0", 0), ("0:0  0:0", 4),
                            ("0:0\n", 3), ("0:0\n0:0", 3), ("0", 1), ("0:", 2), ("0:0 1", 5), ("0:0 1:", 6)):
            with self.assertRaises(BadText, msg=text) as caught:
                read_play(text)
            self.assertEqual(caught.exception.place, place, text)
            self.assertEqual(wrong_place(text), place, text)

    def test_values_of_other_kinds(self):
        for value in ODD_VALUES + (((0, 2),), [(0, 2)], ("0:2",), ["0:2"], {"0:2": "0:2"}):
            if isinstance(value, str):
                self.check(value)
            else:
                with self.assertRaises(BadText) as caught:
                    read_play(value)
                self.assertEqual(vars(caught.exception), {"place": 0})

    def test_the_text_of_some_thousand_ticks(self):
        play = Model(known_game("cups")).some_play(Things(32).random, 20000)
        text = play_text(play)
        self.assertEqual(read_play(text), play)
        for spoilt, place in ((text + " ", len(text) + 1), (text + "x", len(text)), (text[:-1], len(text) - 1)):
            with self.assertRaises(BadText) as caught:
                read_play(spoilt)
            self.assertEqual(caught.exception.place, place)


class Views(unittest.TestCase):
    def test_each_kind_of_pair(self):
        self.assertEqual(view_text(((None, (0, None, 5)),)), "- 0,.,5")
        self.assertEqual(view_text(((None, (None,)), (3, (1,)), (("no", 7), (0,)), (None, (2,)))),
                         "- . / d3 1 / no 7 0 / - 2")
        self.assertEqual(view_text(((None, (0, 0)), (0, (None, None)), (("no", 0), (0, 1)))),
                         "- 0,0 / d0 .,. / no 0 0,1")

    def test_the_texts_of_views_of_many_games(self):
        things = Things(33)
        for game in some_games(33, 30):
            play = Model(game).some_play(things.random, 12)
            for player in range(game[0]):
                rows = []
                for what, seen in view(game, player, play):
                    cells = ",".join("." if value is None else str(value) for value in seen)
                    deed = "-" if what is None else f"d{what}" if isinstance(what, int) else " ".join(map(str, what))
                    rows.append(f"{deed} {cells}")
                self.assertEqual(view_text(view(game, player, play)), " / ".join(rows))


if __name__ == "__main__":
    unittest.main()

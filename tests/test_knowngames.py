"""The known games: their texts, sign by sign, and that there are no others."""

import os
import re
import unittest

from knownplay.errors import Unfit
from knownplay.games import game_error
from knownplay.gametexts import game_text, read_game
from knownplay.knowngames import known_game, known_names
from tests.model import Model
from tests.things import CARD, ODD_VALUES

TEXTS = os.path.join(os.path.dirname(os.path.abspath(__file__)), "doc_examples", "known_texts.txt")
NAMES = ("bid", "cards", "coin", "cups", "door", "heaps", "host", "lamps")

# How many states come, counted by hand: of bid each price not named, 1 or 2, and where all are named opened or not; of
# cards none, one, or two of three cards dealt, and two shown; of coin not tossed, or two sides, looked at or not, and
# no guess or one of two; of cups and lamps all that there are.
KNOWN_STATES = {"bid": 27 + 8, "cards": 1 + 3 + 6 + 6, "coin": 1 + 2 * 2 * 3, "cups": 3 * 4, "lamps": 2 * 2 * 2}


def document_texts():
    """The texts of the known games as the document has them, by their names."""
    with open(TEXTS, encoding="ascii") as file:
        rows = re.findall(r'^- "(\w+)": `([^`]*)`$', file.read(), re.MULTILINE)
    return {name: text.replace(" / ", "\n") for name, text in rows}


class Games(unittest.TestCase):
    def test_the_names_ascend(self):
        self.assertEqual(known_names(), NAMES)
        self.assertIs(type(known_names()), tuple)
        self.assertEqual(tuple(sorted(document_texts())), NAMES)

    def test_each_has_its_text_sign_by_sign(self):
        for name, text in document_texts().items():
            self.assertEqual(game_text(known_game(name)), text, name)
            self.assertEqual(known_game(name), read_game(text), name)

    def test_each_is_a_game_of_pythons_own_kinds(self):
        for name in NAMES:
            self.assertIsNone(game_error(known_game(name)), name)
            self.assertIs(type(known_game(name)), tuple)
            self.assertEqual(known_game(name), known_game(name))

    def test_as_many_states_come_as_the_stories_have(self):
        for name, many in KNOWN_STATES.items():
            self.assertEqual(len(Model(known_game(name)).far()), many, name)

    def test_all_other_names_are_unfit(self):
        others = [name + " " for name in NAMES] + [" " + name for name in NAMES] + [name[:-1] for name in NAMES]
        others += [name.upper() for name in NAMES] + [name.title() for name in NAMES] + [name + "\n" for name in NAMES]
        others += [(name,) for name in NAMES] + [[name] for name in NAMES] + [{name: name} for name in NAMES]
        others += [NAMES, list(NAMES), CARD, known_game("bid"), game_text(known_game("bid")), "chess", 0, 7, -1]
        for other in others + list(ODD_VALUES):
            with self.assertRaises(Unfit) as caught:
                known_game(other)
            self.assertEqual(vars(caught.exception), {}, other)


if __name__ == "__main__":
    unittest.main()

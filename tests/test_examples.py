"""The examples of the document, as they stand there, and that of README.md."""

import doctest
import os
import unittest

from tests.examples import run_examples


class Examples(unittest.TestCase):
    def test_terms_and_their_texts(self):
        self.assertEqual(run_examples(self, "terms.txt"), 31)

    def test_games_and_their_texts(self):
        self.assertEqual(run_examples(self, "games.txt"), 22)

    def test_known_games(self):
        self.assertEqual(run_examples(self, "knowngames.txt"), 4)

    def test_plays_views_and_their_texts(self):
        self.assertEqual(run_examples(self, "plays.txt"), 27)

    def test_wires_and_their_texts(self):
        self.assertEqual(run_examples(self, "wires.txt"), 29)

    def test_readme(self):
        readme = os.path.join(os.path.dirname(os.path.dirname(os.path.abspath(__file__))), "README.md")
        found = doctest.testfile(readme, module_relative=False, encoding="ascii")
        self.assertEqual((found.failed, found.attempted), (0, 20))


if __name__ == "__main__":
    unittest.main()

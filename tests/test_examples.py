"""The examples of the document, as they stand there, and that of README.md."""

import doctest
import os
import unittest

from tests.examples import run_examples


class Examples(unittest.TestCase):
    def test_terms_and_their_texts(self):
        self.assertEqual(run_examples(self, "terms.txt"), 31)

    def test_games_and_their_texts(self):
        self.assertEqual(run_examples(self, "games.txt"), 22)

    def test_readme(self):
        readme = os.path.join(os.path.dirname(os.path.dirname(os.path.abspath(__file__))), "README.md")
        found = doctest.testfile(readme, module_relative=False, encoding="ascii")
        self.assertEqual((found.failed, found.attempted), (0, 8))


if __name__ == "__main__":
    unittest.main()

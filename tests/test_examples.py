"""The examples of the document, as they stand there, and that of README.md."""

import doctest
import os
import unittest

from tests.examples import run_examples


class Examples(unittest.TestCase):
    def test_terms_and_their_texts(self):
        self.assertEqual(run_examples(self, "terms.txt"), 31)

    def test_games_and_their_texts(self):
        self.assertEqual(run_examples(self, "games.txt"), 22)

    def test_known_games(self):
        self.assertEqual(run_examples(self, "knowngames.txt"), 4)

    def test_plays_views_and_their_texts(self):
        self.assertEqual(run_examples(self, "plays.txt"), 27)

    def test_wires_and_their_texts(self):
        self.assertEqual(run_examples(self, "wires.txt"), 29)

    def test_sets_and_their_tables(self):
        self.assertEqual(run_examples(self, "sets.txt"), 28)

    def test_leaks_lacks_and_just_papers(self):
        self.assertEqual(run_examples(self, "just.txt"), 32)

    def test_classes_and_joiners(self):
        self.assertEqual(run_examples(self, "classes.txt", "joiners.txt"), 33)

    def test_watchers_and_likeness(self):
        self.assertEqual(run_examples(self, "sets.txt", "watchers.txt"), 50)

    def test_lies_and_comparing(self):
        self.assertEqual(run_examples(self, "lies.txt"), 41)

    def test_roads_and_gaps(self):
        self.assertEqual(run_examples(self, "roads.txt"), 21)

    def test_tries_and_firmness(self):
        self.assertEqual(run_examples(self, "tries.txt"), 28)

    def test_odds_and_leanings(self):
        self.assertEqual(run_examples(self, "odds.txt"), 33)

    def test_shards(self):
        self.assertEqual(run_examples(self, "shards.txt"), 31)

    def test_houses_and_audits(self):
        self.assertEqual(run_examples(self, "audits.txt"), 24)

    def test_halls_logs_and_shells(self):
        self.assertEqual(run_examples(self, "halls.txt"), 30)

    def test_readme(self):
        readme = os.path.join(os.path.dirname(os.path.dirname(os.path.abspath(__file__))), "README.md")
        found = doctest.testfile(readme, module_relative=False, encoding="ascii")
        self.assertEqual((found.failed, found.attempted), (0, 43))


if __name__ == "__main__":
    unittest.main()

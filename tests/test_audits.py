"""Audits of houses: each promise kept or broken, or left open; what is shown, and what is wrong with what else is."""

import unittest

from knownplay.audits import audit, audit_error
from knownplay.comparing import comparing
from knownplay.houses import house_error, mended
from knownplay.joiners import join_gap, join_paper, join_spill
from knownplay.justpapers import just_paper
from knownplay.knowngames import known_game
from knownplay.knownwires import bare_wire, plain_wire, silent_wire
from knownplay.leaks import lack, leak
from knownplay.leanings import leaning
from knownplay.leanpapers import lean_paper
from knownplay.likeness import as_good, good_paper
from knownplay.mixing import bad_history, ordered, sorting
from knownplay.watchers import helps, reach, reach_paper
from tests.knowing import MIXED, counting, too_many
from tests.test_houses import CELLAR, GOSSIP, PARLOUR, some_houses, with_item
from tests.test_leanings import blind
from tests.test_leaks import BOX, FAIR, MUTE
from tests.test_lies import EARLY, PARITY, SHOWN
from tests.things import ODD_VALUES, YES, Things

NUMBERS = range(7)
TALE = (((0, 0),), ((0, 1),))


def copies(game):
    """Two of each deed."""
    return tuple(sorted(list(range(len(game[2]))) * 2))


def tales_for(house, number, player):
    """The tales of a promise for a player that the defs tell, without the player, first ones first."""
    game, wire, rule, lag, _, spare = house
    calls = {0: lambda: (("leak", leak(game, wire, player)), ("lack", lack(game, wire, player))),
             1: lambda: ((leaning(game, wire, player),),),
             2: lambda: (("gap", join_gap(game, wire, player, rule)), ("spill", join_spill(game, wire, player, rule))),
             3: lambda: ((helps(game, wire, player, lag),),), 6: lambda: ((as_good(game, spare, wire, player),),)}
    return [tale for tale in calls[number]() if tale[-1] is not None]


def papers_of(house, number):
    """The papers of a promise that the defs tell for all players."""
    game, wire, rule, _, _, spare = house
    papers = []
    for player in range(game[0]):
        told = {0: lambda: just_paper(game, wire, player), 1: lambda: lean_paper(game, wire, player),
                2: lambda: tuple(join_paper(game, wire, player, rule, word) for word in ("gap", "spill")),
                3: lambda: reach_paper(game, wire, player), 6: lambda: good_paper(game, spare, wire, player)}
        papers.append(told[number]())
    return tuple(papers)


def shown_for(house, number):
    """The pair of a promise, made of what the defs tell, one behind another."""
    game, wire, _, _, owners, _ = house
    if number == 4:
        tale = comparing(game, wire, 2) if game[0] > 2 else None
        return ("broken", tale) if tale else ("kept", None)
    if number == 5:
        tale = bad_history(game, owners, copies(game))
        return ("broken", tale) if tale else ("kept", sorting(game, owners, copies(game)))
    for player in range(game[0]):
        tales = tales_for(house, number, player)
        if tales:
            return ("broken", (player,) + tales[0])
    return ("kept", papers_of(house, number))


def with_pair(value, number, pair):
    """What is shown, with another pair for a promise."""
    return value[:number] + (pair,) + value[number + 1:]


class Audits(unittest.TestCase):
    def test_what_the_defs_tell_one_behind_another(self):
        seen = {number: [] for number in NUMBERS}
        for house in some_houses(591, 120):
            found = audit(house)
            self.assertEqual(len(found), 7)
            for number in NUMBERS:
                word, shown = found[number]
                seen[number].append(word)
                if word == "open":
                    self.assertIn(shown, (3000, 100, 30))
                    continue
                wanted = shown_for(house, number)
                self.assertEqual(word, wanted[0])
                if number != 4:
                    self.assertEqual(shown, wanted[1])
            if all(word != "open" for word, _ in found):
                self.assertIsNone(audit_error(house, found))
        for number in NUMBERS:
            self.assertGreater(seen[number].count("kept"), 5, number)
            if number != 4:
                self.assertGreater(seen[number].count("broken"), 5, number)

    def test_what_hangs_together(self):
        for house in some_houses(592, 80):
            game, wire, rule, lag, owners, spare = house
            words = [word for word, _ in audit(house)]
            if words[0] == "kept":
                self.assertIn(words[1], ("kept", "open"))
                plain = audit(with_item(house, 5, plain_wire(game)))
                self.assertEqual(plain[6][0], "kept")
                self.assertEqual(audit((game, plain_wire(game), rule, lag, owners, wire))[6][0], "kept")
            if words[3] == "kept":
                for more in (lag + 1, 200):
                    self.assertEqual(audit(with_item(house, 3, more))[3][0], "kept")
            self.assertEqual(words[5] == "kept", ordered(game, owners))
            better = mended(house)
            again = [word for word, _ in audit(better)]
            self.assertEqual(again[5:], ["kept", "kept"])
            reaches = [reach(game, better[1], player) for player in range(game[0])]
            self.assertEqual(again[3] == "kept", None not in reaches and max(reaches) <= 200)

    def test_first_player_first_word(self):
        self.assertEqual(audit(GOSSIP)[0][1][:2], (0, "leak"))
        # The player 0 has a just rule, the player 1 one that leaks and lacks.
        blurred = ((("both", ("same", ("deed",), ("is", 0)), ("same", ("cell", 0), ("is", 1))), ("is", 7)),)
        house = (BOX, (FAIR, blurred), (), 0, (0, 0), (FAIR, FAIR))
        self.assertEqual(audit(house)[0][1][:2], (1, "leak"))
        self.assertIsNotNone(lack(BOX, house[1], 1))
        self.assertEqual(audit(with_item(house, 1, (FAIR, MUTE)))[0][1][:2], (1, "lack"))
        self.assertEqual(audit((BOX, (FAIR, FAIR), (), 0, (0, 0), (FAIR, MUTE)))[6][1][0], 1)
        for rule in ((), ((("same", ("cell", 0), ("is", 0)), ("is", 7)),), ((YES, ("cell", 0)),),
                     ((YES, ("cell", 1)),)):
            found = audit(with_item(PARLOUR, 2, rule))[2]
            gap, spill = join_gap(BOX, PARLOUR[1], 0, rule), join_spill(BOX, PARLOUR[1], 0, rule)
            self.assertEqual(found[1][:2], (0, "gap" if gap else "spill"))
            self.assertEqual(found[1][2], gap or spill)

    def test_three_players_who_compare(self):
        for wire, word in ((EARLY, "broken"), (SHOWN, "kept")):
            house = (PARITY, wire, (), 0, (0,) * len(PARITY[1]), wire)
            self.assertIsNone(house_error(house))
            found = audit(house)[4]
            self.assertEqual(found[0], word)
            if word == "broken":
                self.assertEqual(found[1], comparing(PARITY, wire, 2))
            self.assertIsNone(audit_error(house, audit(house)))

    def test_known_houses(self):
        for name, rule in (("coin", ()), ("lamps", ((YES, ("cell", 0)),)), ("cups", ()), ("host", ())):
            game = known_game(name)
            house = (game, plain_wire(game), rule, 2, (0,) * len(game[1]), silent_wire(game))
            found = audit(house)
            words = [word for word, _ in found]
            self.assertEqual(words[0], "kept")
            self.assertEqual(words[5], "kept")
            self.assertEqual(words[6], "broken")
            self.assertNotEqual(words[1], "broken")


class Open(unittest.TestCase):
    def test_which_limit_is_told(self):
        # 31 states are too many for leaning alone.
        game = counting((5, 6), (4, 5))
        wire = plain_wire(game)
        house = (game, (wire[0], wire[0]), (), 0, (0,) * 3, wire)
        self.assertEqual(audit(house)[1], ("open", 30))
        # The player 0, who sees all, is asked first, and hears all.
        self.assertEqual(audit(house)[0][1][:2], (1, "leak"))
        # As many planes are too many.
        game = blind((6,))
        house = (game, silent_wire(game), (), 0, (0, 0), silent_wire(game))
        self.assertEqual(audit(house)[1], ("open", 100))
        # More than 3000 states are too many for most.
        game = counting((6, 6, 6, 6, 6))
        house = (game, silent_wire(game), (), 0, (0,) * 5, silent_wire(game))
        found = audit(house)
        self.assertEqual([found[number] for number in (0, 1, 2, 3, 6)],
                         [("open", 3000), ("open", 30)] + [("open", 3000)] * 3)
        self.assertEqual((found[4], found[5][0]), (("kept", ()), "kept"))
        self.assertEqual(audit_error(house, found), (0, "open"))
        # Of three players who hear nothing few nodes come, of three who hear all there are too many.
        three = (3,) + game[1:3] + (game[3] + game[3][:1],)
        for wire, word in ((silent_wire(three), "kept"), (bare_wire(three), "open")):
            self.assertEqual(audit((three, wire, (), 0, (0,) * 5, wire))[4][0], word)

    def test_a_tale_that_is_found_first_is_told(self):
        # A first player for whom it is open comes ahead of a second one for whom it is broken.
        game = counting((5, 4, 3))
        wire, unseen = bare_wire(game), tuple((None,) + deed[1:4] + ((),) for deed in game[2])
        turned = game[:2] + (unseen, game[3][::-1])
        too_many(self, lambda: leak(turned, wire, 0))
        self.assertEqual(audit((turned, wire, (), 0, (0,) * 3, wire))[0], ("open", 3000))
        # And the other way about.
        mute = (wire[0][:1], wire[1])
        too_many(self, lambda: leak(game, mute, 1))
        self.assertEqual(audit((game, mute, (), 0, (0,) * 3, wire))[0][1][:2], (0, "lack"))
        # Where no tale is told, the next def is asked: what is heard makes too many pairs.
        silent = silent_wire(game)
        self.assertIsNone(leak(game, silent, 0))
        too_many(self, lambda: lack(game, silent, 0))
        self.assertEqual(audit((game, silent, (), 0, (0,) * 3, wire))[0], ("open", 3000))

    def test_the_judge_raises_where_its_judges_do(self):
        game = counting((5, 6), (4, 5))
        wire = plain_wire(game)
        house = (game, wire, (), 0, (0,) * 3, wire)
        found = audit(house)
        self.assertEqual((found[0][0], found[1]), ("kept", ("open", 30)))
        too_many(self, lambda: audit_error(house, with_pair(found, 1, ("kept", ((), ())))), 30)
        self.assertEqual(audit_error(house, with_pair(found, 1, ("broken", (0, ())))), (1, "even"))
        great = counting((6, 6, 6, 6, 6))
        house = (great, silent_wire(great), (), 0, (0,) * 5, silent_wire(great))
        pairs = (("kept", ((), ())), ("kept", ((), ())), ("kept", (((), ()), ((), ()))), ("kept", ((), ())),
                 ("kept", ()), ("kept", ()),
                 ("kept", ((), ())))
        self.assertEqual(audit_error(house, pairs), (0, (0, "first")))
        self.assertEqual(audit_error(house, with_pair(pairs, 0, None)), "form")


class Judges(unittest.TestCase):
    def setUp(self):
        self.found = {house: audit(house) for house in (PARLOUR, GOSSIP, CELLAR)}

    def bad(self, number, pair, house=PARLOUR):
        """What is told of a pair in the place of that which audit shows."""
        return audit_error(house, with_pair(self.found[house], number, pair))

    def test_form(self):
        found = self.found[PARLOUR]
        for value in ODD_VALUES + MIXED + (list(found), found[:6], found + found[:1], found[:6] + (None,),
                                           found[:6] + ([1, 2],),
                                           found[:6] + (("kept",),), found[:6] + (("kept", (), ()),)):
            self.assertEqual(audit_error(PARLOUR, value), "form")

    def test_words(self):
        for number in NUMBERS:
            for word in (None, True, 0, "", "Kept", "keep", ("kept",), ["kept"], {}):
                self.assertEqual(self.bad(number, (word, None)), (number, "word"))
            self.assertEqual(self.bad(number, ("open", None)), (number, "open"))
            self.assertEqual(self.bad(number, ("open", 3000)), (number, "open"))

    def test_papers_without_form(self):
        for number in (0, 1, 3, 6):
            word, papers = self.found[PARLOUR][number]
            self.assertEqual(word, "kept")
            for value in (None, (), papers[:1], papers * 2, list(papers), {}, True, "xx"):
                self.assertEqual(self.bad(number, ("kept", value)), (number, "form"))
            for value in (None, (), [], "xx", 7, ((),), True):
                error = self.bad(number, ("kept", (papers[0], value)))
                self.assertEqual(error[0], number)
                self.assertEqual(error[1][0], 1)
        for value in (None, (), ((), ()), (((), ()),), (((), ()), ((),)), (((), ()), [(), ()]),
                      (((), ()), ((), (), ()))):
            self.assertEqual(self.bad(2, ("kept", value)), (2, "form"))
        for value in (None, [], ((),), 0, False, "", "x"):
            self.assertEqual(self.bad(4, ("kept", value)), (4, "form"))
        # Of sortings the judge itself tells the form.
        self.assertEqual(audit_error(GOSSIP, with_pair(self.found[GOSSIP], 5, ("kept", None))), (5, "form"))
        self.assertEqual(audit_error(PARLOUR, with_pair(self.found[PARLOUR], 5, ("broken", None))), (5, "form"))

    def test_tales_without_form(self):
        for number in (0, 2):
            words = ("leak", "lack") if number == 0 else ("gap", "spill")
            for value in (None, (), (0,), (0, words[0]), (0, words[0], TALE, None), (2, words[0], TALE),
                          (-1, words[0], TALE),
                          (True, words[0], TALE), (False, words[0], TALE), (0, "word", TALE), (0, None, TALE),
                          (0, (words[0],), TALE),
                          [0, words[0], TALE], (None, words[0], TALE), (0, words[0] + " ", TALE),
                          (0, ("leak", "gap")[number == 0], TALE)):
                self.assertEqual(self.bad(number, ("broken", value)), (number, "form"), value)
        for number in (1, 3, 6):
            for value in (None, (), (0,), (0, (), ()), (2, ()), (-1, ()), (True, ()), (None, ()), [0, ()], "xx",
                          ((0,), ())):
                self.assertEqual(self.bad(number, ("broken", value)), (number, "form"), value)
        for value in (None, (), (0, ()), ((), ())):
            self.assertEqual(self.bad(4, ("broken", value)), (4, "form"))

    def test_tales_of_other_players_and_longer_ones(self):
        for player in range(2):
            for more in ((), ((0, 1),), ((0, 0), (0, 1))):
                pair = tuple(play + more for play in TALE)
                self.assertIsNone(self.bad(0, ("broken", (player, "leak", pair)), GOSSIP))
                self.assertEqual(self.bad(0, ("broken", (player, "lack", pair)), GOSSIP), (0, ("rows", 1)))
            word, tale = self.found[GOSSIP][6]
            self.assertIsNone(self.bad(6, (word, (player, tale[1])), GOSSIP))
            self.assertIsNone(self.bad(6, (word, (player, tale[1] + ((0, 0), (0, 1)))), GOSSIP))
            word, tale = self.found[CELLAR][3]
            self.assertIsNone(self.bad(3, (word, (player, tale[1])), CELLAR))
            word, tale = self.found[CELLAR][1]
            self.assertIsNone(self.bad(1, (word, (player, tale[1])), CELLAR))
            word, tale = self.found[PARLOUR][2]
            self.assertIsNone(self.bad(2, (word, (player,) + tale[1:]), PARLOUR))

    def test_what_is_told_of_tales(self):
        for number, tale, told in ((0, (0, "leak", (TALE[0], TALE[0])), "rows"),
                                   (0, (1, "lack", ((), ((1, 0),))), ("rows", 1)), (0, (0, "leak", None), "form"),
                                   (0, (0, "leak", (((0, 2),), ())), ("play", 0, ("move", 0))),
                                   (1, (0, ((0, 0),)), "even"),
                                   (1, (1, ((0, 2),)), "play"), (2, (0, "gap", None), "form"),
                                   (2, (0, "spill", ((), ())), "none"),
                                   (2, (1, "gap", (((0, 2),), ())), ("ahead", 0)),
                                   (2, (1, "gap", ((), ((0, 2),))), ("behind", 0)),
                                   (3, (0, None), "form"), (3, (1, ()), "none"), (6, (1, "play"), "form"),
                                   (6, (0, ((0, 0),)), "none")):
            self.assertEqual(self.bad(number, ("broken", tale)), (number, told), tale)

    def test_what_is_told_of_papers(self):
        kept = self.found[PARLOUR]
        for number in (0, 1, 3, 6):
            papers = kept[number][1]
            first = {0: "first", 1: "form", 3: "form", 6: "begun"}[number]
            self.assertEqual(self.bad(number, ("kept", ((), papers[1]))), (number, (0, first)))
            self.assertEqual(self.bad(number, ("kept", (papers[0], ()))), (number, (1, first)))
            self.assertEqual(self.bad(number, ("kept", ((), ()))), (number, (0, first)))
        self.assertEqual(audit_error(PARLOUR, with_pair(kept, 2, ("kept", (((), ()), ((), ()))))), (2, (0, "begun")))

    def test_papers_of_joiners_are_asked_for_gap_first(self):
        wire = (MUTE, MUTE)
        house = (BOX, wire, ((YES, ("cell", 1)),), 0, (0, 0), wire)
        found = audit(house)
        papers = tuple(join_paper(BOX, wire, player, house[2], "gap") for player in range(2))
        spills = tuple(join_paper(BOX, wire, player, house[2], "spill") for player in range(2))
        self.assertEqual((None in papers, None in spills), (True, False))
        ahead = with_pair(found, 2, ("kept", ((spills[0], spills[0]), (spills[1], spills[1]))))
        error = audit_error(house, ahead)
        self.assertEqual((error[0], error[1][0], error[1][1][0]), (2, 0, "triple"))
        full = with_item(house, 2, ((YES, ("cell", 0)), (YES, ("cell", 1))))
        found, wire = audit(full), full[1]
        gaps = tuple(join_paper(BOX, wire, player, full[2], "gap") for player in range(2))
        self.assertEqual(found[2][1][:2], (0, "spill"))
        self.assertEqual(audit_error(full, with_pair(found, 2, ("kept", tuple((gap, None) for gap in gaps)))),
                         (2, (0, "form")))
        self.assertEqual(audit_error(full, with_pair(found, 2, ("kept", tuple((None, gap) for gap in gaps)))),
                         (2, (0, "form")))
        self.assertEqual(audit_error(full, with_pair(found, 2, ("kept", ((gaps[0], gaps[0]), (None, None)))))[1][1][0],
                         "triple")

    def test_rings_and_lags(self):
        ring = ("kept", tuple(reach_paper(BOX, (MUTE, MUTE), player) for player in range(2)))
        self.assertEqual(ring[1][0][0], "ring")
        self.assertEqual(self.bad(3, ring, CELLAR), (3, (0, "ring")))
        # The greatest rank is one less than the least lag that is enough.
        for seed in (593, 594):
            for house in some_houses(seed, 40):
                reaches = [reach(house[0], house[1], player) for player in range(house[0][0])]
                if None in reaches or max(reaches) == 0:
                    continue
                papers = tuple(reach_paper(house[0], house[1], player) for player in range(house[0][0]))
                for lag in range(max(reaches) + 2):
                    own = with_item(house, 3, lag)
                    found = with_pair(audit(own), 3, ("kept", papers))
                    if "open" in [word for word, _ in found]:
                        continue
                    wrong = [player for player, least in enumerate(reaches) if least > lag]
                    self.assertEqual(audit_error(own, found), (3, (wrong[0], "lag")) if wrong else None)

    def test_histories_and_sortings(self):
        word, history = self.found[PARLOUR][5]
        self.assertEqual(word, "broken")
        self.assertEqual(self.bad(5, ("broken", tuple(sorted(history)))), (5, "ordered"))
        self.assertEqual(self.bad(5, ("broken", history[:-1]))[1][0], "lacks")
        self.assertEqual(self.bad(5, ("broken", history + history[:1])), (5, ("item", len(history))))
        self.assertEqual(self.bad(5, ("kept", ()))[1][0], "link")
        word, lots = self.found[GOSSIP][5]
        self.assertEqual(word, "kept")
        self.assertEqual(self.bad(5, ("kept", lots + lots[:1]), GOSSIP)[1][0], "link")
        some = tuple((k, 0) for k in range(4))
        self.assertEqual(self.bad(5, ("broken", some), GOSSIP), (5, "ordered"))

    def test_the_first_wrong_pair_is_told(self):
        found = self.found[PARLOUR]
        for number in NUMBERS:
            value = found[:number] + (("open", 0),) * (7 - number)
            self.assertEqual(audit_error(PARLOUR, value), (number, "open"))

    def test_papers_and_tales_of_other_houses(self):
        things = Things(595)
        houses = [house for house in some_houses(596, 60) if house[0][0] == 2]
        shown = [audit(house) for house in houses]
        for house, found in zip(houses, shown):
            others = things.random.choice(shown)
            for number in NUMBERS:
                if "open" in [word for word, _ in found[:number] + others[number:number + 1]]:
                    continue
                pair = others[number]
                error = audit_error(house, with_pair(found, number,
                                                     pair)) if "open" not in [word for word, _ in found] else None
                if error is None and "open" not in [word for word, _ in found]:
                    # What is let by is so.
                    self.assertEqual(pair[0], found[number][0])

    def test_values_of_any_kind(self):
        things = Things(597)
        pieces = ODD_VALUES + MIXED + tuple(thing for _,
                                            thing in self.found[GOSSIP]) + tuple(thing for _,
                                                                                 thing in self.found[PARLOUR])
        for _ in range(400):
            number = things.random.choice(NUMBERS)
            word = things.random.choice(("kept", "broken", "kept", "broken", None))
            thing = things.random.choice(pieces)
            if things.random.random() < 0.4:
                thing = (thing, things.random.choice(pieces))
            elif things.random.random() < 0.4:
                thing = (things.random.randrange(2), things.random.choice(("leak", "lack", "gap", "spill")), thing)
            error = self.bad(number, (word, thing))
            if error is not None:
                self.assertEqual(error[0], number)


if __name__ == "__main__":
    unittest.main()

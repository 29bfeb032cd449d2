"""What holds over the whole program, for drawn houses of few states: what one part tells is what the others tell."""

import itertools
import unittest
from fractions import Fraction

from knownplay.audits import audit, audit_error
from knownplay.classes import classes, memories, memories_error
from knownplay.comparing import comparing, comparing_error
from knownplay.errors import KnowError
from knownplay.firmness import firm_row, firm_tale, firm_tale_error
from knownplay.gametexts import game_text
from knownplay.gaps import known_by_gaps
from knownplay.halllogs import hall_behind, hall_log, log_text, read_log, read_rule, rule_text
from knownplay.halls import Hall
from knownplay.houses import house_error, mended
from knownplay.joiners import join_gap, join_paper, join_paper_error, join_spill, join_tale_error
from knownplay.justpapers import is_just, just_paper, just_paper_error
from knownplay.justparts import greatest
from knownplay.knownwires import bare_wire, plain_wire, silent_wire
from knownplay.leaks import lack, lack_error, leak, leak_error
from knownplay.leanings import leaning, leaning_error
from knownplay.leanpapers import lean_paper, lean_paper_error
from knownplay.lies import finders, found_at
from knownplay.likeness import as_good, as_good_error, good_paper, good_paper_error
from knownplay.mixing import bad_history, ordered, sorting
from knownplay.odds import foretold, odds, rows_by
from knownplay.settables import set_table
from knownplay.sets import known, sure, wrong_play
from knownplay.shells import Shell
from knownplay.views import view
from knownplay.watchers import helps, helps_error, reach, watched
from knownplay.wires import heard, heard_by
from knownplay.wiretexts import wire_text
from tests.going import Going, Wrong, some_edit
from tests.knowing import surer
from tests.model import Model
from tests.test_houses import some_houses, some_rule
from tests.test_shells import one_line
from tests.things import YES, Things


def led(hall, random, edits):
    """Leads a hall by drawn edits; returns its Going."""
    going = Going(hall.game, hall.wire, hall.rule)
    for _ in range(edits):
        call = some_edit(random, going)
        try:
            going.edit(*call)
        except Wrong:
            continue
        getattr(hall, call[0])(*call[1:])
    return going


def right_of(shown, state):
    """Whether what is shown is right of a state."""
    return all(item in (None, value) for item, value in zip(shown, state))


class Parts(unittest.TestCase):
    def setUp(self):
        self.houses = some_houses(701, 60)

    def plays(self, game, seed, many=4, ticks=5):
        """Some drawn plays, with the states that they lead through."""
        things, model = Things(seed), Model(game)
        return [(play, model.through(play)) for play in (model.some_play(things.random, ticks) for _ in range(many))]

    def test_one_set_sure(self):
        for seed, (game, wire, _, _, _, _) in enumerate(self.houses):
            for play, come in self.plays(game, seed):
                for player in range(game[0]):
                    row = heard(game, wire, (player,), play)
                    shown = sure(game, known(game, wire, (player,), row))
                    self.assertTrue(right_of(shown, come[-1]))
                    self.assertIsNone(wrong_play(game, wire, (player,), row, shown))
                    for cell, item in enumerate(shown):
                        if item is None:
                            more = shown[:cell] + (come[-1][cell],) + shown[cell + 1:]
                            self.assertIsNotNone(wrong_play(game, wire, (player,), row, more))

    def test_just(self):
        for game, wire, _, _, _, _ in self.houses:
            for player in range(game[0]):
                tales = [leak(game, wire, player), lack(game, wire, player)]
                paper = just_paper(game, wire, player)
                self.assertNotEqual(paper is None, tales == [None, None])
                self.assertTrue(paper is None or just_paper_error(game, wire, player, paper) is None)
                self.assertTrue(tales[0] is None or leak_error(game, wire, player, tales[0]) is None)
                self.assertTrue(tales[1] is None or lack_error(game, wire, player, tales[1]) is None)
                self.assertIsNone(leak(game, greatest(game, wire, player), player))

    def test_memories(self):
        for game, wire, _, _, _, _ in self.houses:
            for player in range(game[0]):
                table = memories(game, wire, (player,))
                self.assertIsNone(memories_error(game, wire, (player,), table))
                self.assertEqual(len(table), max(classes(game, wire, (player,))) + 1)
                self.assertLessEqual(len(table), len(set_table(game, wire, (player,))))

    def test_joiners(self):
        for game, wire, rule, _, _, _ in self.houses:
            for player, (word, call) in itertools.product(range(game[0]), (("gap", join_gap), ("spill", join_spill))):
                tale, paper = call(game, wire, player, rule), join_paper(game, wire, player, rule, word)
                self.assertNotEqual(tale is None, paper is None)
                if tale is None:
                    self.assertIsNone(join_paper_error(game, wire, player, rule, word, paper))
                else:
                    self.assertIsNone(join_tale_error(game, wire, player, rule, word, tale))

    def test_watchers(self):
        for seed, (game, wire, _, lag, _, _) in enumerate(self.houses):
            for player in range(game[0]):
                least, play = reach(game, wire, player), helps(game, wire, player, lag)
                self.assertEqual(play is None, least is not None and least <= lag)
                self.assertTrue(play is None or helps_error(game, wire, player, lag, play) is None)
                for own, _ in self.plays(game, seed, 2):
                    some = known(game, wire, (player,), heard(game, wire, (player,), own))
                    told = watched(game, wire, player, lag, own)
                    self.assertTrue(set(told) <= set(some) and (play is not None or told == some))

    def test_as_good(self):
        for seed, (game, wire, _, _, _, spare) in enumerate(self.houses):
            for player in range(game[0]):
                play, paper = as_good(game, spare, wire, player), good_paper(game, spare, wire, player)
                self.assertNotEqual(play is None, paper is None)
                if play is not None:
                    self.assertIsNone(as_good_error(game, spare, wire, player, play))
                else:
                    self.assertIsNone(good_paper_error(game, spare, wire, player, paper))
                    for own, _ in self.plays(game, seed, 3):
                        some = [known(game, one, (player,), heard(game, one, (player,), own)) for one in (spare, wire)]
                        self.assertFalse(surer(some[1], some[0]))

    def test_lies(self):
        for seed, (game, wire, _, _, _, _) in enumerate(self.houses):
            for play, _ in self.plays(game, seed, 2):
                told = tuple(heard_by(game, wire, player, play)[:1 + (seed + player) % 5] for player in range(game[0]))
                self.assertEqual((finders(game, wire, told), found_at(game, wire, told)), ((), None))
            if game[0] > 2:
                wrong = comparing(game, wire, 2)
                if wrong is not None:
                    self.assertIsNone(comparing_error(game, wire, 2, wrong))
                    self.assertEqual(finders(game, wire, wrong), (tuple(range(3)),))

    def test_firm(self):
        things = Things(702)
        for game, wire, _, _, _, _ in self.houses:
            for player in range(game[0]):
                own = [number for number, deed in enumerate(game[2]) if deed[0] == player]
                if own:
                    tries = tuple(things.random.choice(own) for _ in range(2))
                    row = heard(game, wire, (player,), Model(game).some_play(things.random, 3))
                    some = known(game, wire, (player,), row)
                    firm = firm_row(game, player, some, tries)
                    self.assertIsNone(firm_tale(game, player, some, tries, firm))
                    for k, item in enumerate(firm):
                        shown = firm[:k] + (("set", ((9, 9),)),) + firm[k + 1:]
                        tale = firm_tale(game, player, some, tries, shown)
                        self.assertIsNone(firm_tale_error(game, player, some, tries, shown, tale))

    def test_odds_and_leaning(self):
        for seed, (game, wire, _, _, _, _) in enumerate(self.houses):
            for play, come in self.plays(game, seed, 2, 3):
                deeds = tuple(deed for deed, _ in play)
                for player in range(game[0]):
                    row = heard(game, wire, (player,), play)
                    told = dict(odds(game, wire, (player,), deeds, row))
                    self.assertIn(come[-1], told)
                    self.assertLessEqual(set(told), set(known(game, wire, (player,), row)))
                    rows = rows_by(game, wire, (player,), deeds)
                    begun = [sum(Fraction(*x) * Fraction(*foretold(game, wire, (player,), deeds, its_row, 0)[value])
                                 for its_row, x in rows)
                             for value in range(game[1][0][0])]
                    self.assertEqual([Fraction(*x) for x in foretold(game, wire, (player,), deeds, (), 0)], begun)
            for player in range(game[0]):
                try:
                    found, paper = leaning(game, wire, player), lean_paper(game, wire, player)
                except KnowError:
                    continue
                self.assertNotEqual(found is None, paper is None)
                if found is None:
                    self.assertIsNone(lean_paper_error(game, wire, player, paper))
                else:
                    self.assertIsNone(leaning_error(game, wire, player, found))
                    self.assertFalse(is_just(game, wire, player))

    def test_shards(self):
        for game, _, _, _, owners, _ in self.houses:
            twice = tuple(sorted(list(range(len(game[2]))) * 2))
            self.assertEqual(ordered(game, owners), bad_history(game, owners, twice) is None)
            self.assertEqual(ordered(game, owners), sorting(game, owners, twice) is not None)


class Halls(unittest.TestCase):
    def test_what_is_shown_is_so(self):
        things = Things(703)
        for house in some_houses(704, 50):
            hall = Hall(*house[:3])
            going = led(hall, things.random, 25)
            for player in range(hall.game[0]):
                if hall.shown(player) is not None:
                    self.assertTrue(right_of(hall.shown(player), going.played[hall.tick(player)]))
                if hall.ahead(player) is not None:
                    self.assertTrue(right_of(hall.ahead(player), going.played[max(going.got[player])]))
                    last = hall.sent(player)[:max(going.got[player]) + 1]
                    row = tuple(letter if number in going.got[player] else None for number, letter in enumerate(last))
                    some = known_by_gaps(hall.game, hall.wire, player, row)
                    self.assertEqual(hall.ahead(player), sure(hall.game, some))
                self.assertEqual(hall.elder_shown(player), hall.watched_shown(player, 200))
            self.assertEqual(hall.accused(), ())
            self.assertEqual(hall_behind(hall.game, hall.wire, hall.rule, hall_log(hall)), hall)
            self.assertEqual(read_log(log_text(hall_log(hall))), hall_log(hall))
            self.assertEqual(read_rule(hall.game, rule_text(hall.rule)), hall.rule)

    def test_halls_of_mended_houses(self):
        things = Things(705)
        for house in some_houses(706, 40):
            game, wire, rule, lag, _, spare = mended(house)
            hall = Hall(game, wire, rule)
            led(hall, things.random, 20)
            for player in range(game[0]):
                self.assertIsNone(leak(game, wire, player))
                least = reach(game, wire, player)
                if least is not None and least <= lag:
                    self.assertEqual(hall.watched_shown(player, lag), hall.elder_shown(player))
                row = heard(game, spare, (player,), hall.play)
                shown = sure(game, known(game, spare, (player,), row))
                self.assertTrue(all(item == value for item, value in zip(hall.elder_shown(player), shown)
                                    if item is not None))

    def test_houses_that_keep_all_their_promises(self):
        things, kept = Things(707), 0
        for game, _, _, _, _, _ in some_houses(708, 60, 60):
            everything = tuple((YES, ("cell", c)) for c in range(len(game[1])))
            seen = tuple((see, ("cell", c)) for c, see in enumerate(game[3][0]))
            for rule in (some_rule(things, game), (), everything, seen):
                house = (game, plain_wire(game), rule, 3, (0,) * len(game[1]), plain_wire(game))
                if all(word == "kept" for word, _ in audit(house)):
                    self.across(things, house)
                    kept += 1
        self.assertGreater(kept, 10)

    def test_a_house_that_keeps_its_promises_and_a_secret(self):
        # Each deed tosses the cell 0, which nobody sees, anew; the cell 2 tells that there was one, 1 is seen by its owner.
        tossed = ((0, ("draw",)), (1, ("less", ("is", 1), ("cell", 1))), (2, ("is", 1)))
        deeds = ((0, 2, YES, tossed, (0, 1)), (None, 2, YES, tossed[:1] + tossed[2:], (0, 1)),
                 (1, 2, YES, tossed, (0, 1)))
        game = (2, ((2, 0), (2, 0), (2, 0)), deeds, ((("not", YES), YES, YES),) * 2)
        rule = ((YES, ("cell", 1)), (YES, ("cell", 2)))
        house = (game, plain_wire(game), rule, 1, (0, 0, 0), (rule, rule))
        self.assertEqual([word for word, _ in audit(house)], ["kept"] * 7)
        self.assertTrue(self.across(Things(712), house))
        self.assertEqual(audit((game, plain_wire(game), rule, 0, (0, 0, 0), (rule, rule)))[3][0], "broken")

    def across(self, things, house):
        """What holds in halls of a house that keeps all its promises; returns whether some cell was not sure."""
        game, wire, rule, lag, _, _ = house
        self.assertIsNone(house_error(house))
        self.assertIsNone(audit_error(house, audit(house)))
        halls = [Hall(game, wire, rule) for _ in range(4)]
        for hall in halls:
            led(hall, things.random, 20)
        hidden = False
        for player in range(game[0]):
            for one, other in itertools.combinations(halls, 2):
                if view(game, player, one.play) == view(game, player, other.play):
                    self.assertEqual(one.sent(player), other.sent(player))
            for hall in halls:
                for place in range(len(hall.guests(player))):
                    self.assertEqual(hall.guest_shown(player, place), hall.elder_shown(player))
                self.assertEqual(hall.watched_shown(player, lag), hall.elder_shown(player))
                hidden = hidden or None in hall.elder_shown(player)
        if game[0] == 3 and len(halls[0].play) and len(halls[1].play):
            # Rows that are told wrongly: those that all find some two find, too.
            told = tuple(halls[player % 2].sent(player) for player in range(3))
            self.assertTrue(all(len(lot) <= 2 for lot in finders(game, wire, told)))
        return hidden

    def test_shells_lead_halls_as_methods_do(self):
        things = Things(709)
        for house in some_houses(710, 30):
            game, wire, rule = house[:3]
            from_texts = self.shell(game, wire, rule)
            hall = Hall(game, wire, rule)
            led(hall, things.random, 20)
            for version, call in enumerate(hall.edits):
                self.assertEqual(from_texts.say(" ".join(map(str, call))), f"version {version + 1}")
            self.assertEqual(from_texts.say("log"), one_line(log_text(hall.edits))[:-3] or "none")
            self.assertEqual(from_texts.hall, hall)

    def shell(self, game, wire, rule):
        """A shell with a new hall of what is told by texts."""
        shell = Shell()
        lines = (f"game {one_line(game_text(game))}", f"wire {one_line(wire_text(wire))}",
                 f"rule {one_line(rule_text(rule))}", "begin")
        self.assertEqual([shell.say(line) for line in lines], ["kept", "kept", "kept", "begun"])
        return shell


class Wires(unittest.TestCase):
    def test_plain_silent_and_bare(self):
        for house in some_houses(711, 30):
            game = house[0]
            for player in range(game[0]):
                self.assertTrue(is_just(game, plain_wire(game), player))
                self.assertIsNone(leak(game, silent_wire(game), player))
                self.assertEqual(reach(game, bare_wire(game), player), 0)
                self.assertIsNone(as_good(game, bare_wire(game), house[1], player))
                self.assertIsNone(as_good(game, house[1], silent_wire(game), player))


if __name__ == "__main__":
    unittest.main()

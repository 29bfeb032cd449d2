"""What is a wire, what is told first of what is none, and wires without some of their entries."""

import itertools
import unittest

from knownplay.errors import Unfit
from knownplay.knownwires import bare_wire, changes_wire, plain_wire, silent_wire
from knownplay.terms import condition_error, term_error
from knownplay.wires import heard_by, wire_error, wire_without
from tests.model import Model, place_of_wires
from tests.test_plays import some_games
from tests.things import HIDE, ODD_VALUES, YES, ZERO, Things

OWN = (((YES, ("cell", 0)), (YES, ("is", 7))), ((("done",), ("deed",)), (YES, ("was", 1)), (YES, ("draw",))))
ENTRY = (YES, ZERO)
DEEP = ("not", ("not", ("not", ("not", ("not", ("not", YES))))))
DEEP_TERM = ("choose", DEEP[1], ZERO, ZERO)
FOUR = ("sum", ("sum", ZERO, ZERO), ("sum", ZERO, ZERO))
SIXTEEN = ("sum", ("sum", FOUR, FOUR), ("sum", FOUR, FOUR))
WIDE_TERM = ("sum", SIXTEEN, SIXTEEN)
WIDE = ("same", SIXTEEN, SIXTEEN)

BAD_RULES = (None, [], [ENTRY], (ENTRY,) * 8, "", "rule", 0, True, {}, {ENTRY: 0}, ((),) * 8)
BAD_ENTRIES = (None, (), YES, ZERO[:1], list(ENTRY), (YES, ZERO, ZERO), "ab", 0, {}, {YES: ZERO, ZERO: YES}, (ENTRY,),
               [YES, ZERO], ("choose", YES, ZERO, ZERO))
BAD_WHENS = (None, "yes", ["yes"], (), ZERO, ("cell", 0), ("not", ZERO), ("same", YES, ZERO),
             ("same", ("cell", 2), ZERO), ("both", YES, ("below", ("was", 2), ZERO)), ("done", 1), True,
             DEEP, WIDE, {}, ("not", ("not", ["yes"])))
BAD_WHATS = (None, 0, "c0", ["is", 0], (), YES, ("done",), ("cell", 2), ("cell", True), ("was", -1), ("is", 100),
             DEEP_TERM, WIDE_TERM, ("sum", ZERO, ("less", YES, ZERO)), ("choose", ZERO, ZERO, ZERO), True, {},
             ("draw", 0))


def spoilt(wire, faults):
    """The wire with bad values at places (player, k, part); k is -1 for a rule, part 0 for an entry, 1 and 2 in it."""
    rules = list(wire)
    # The greater places lie within the others, or behind them.
    for (player, k, part), bad in sorted(faults.items(), key=lambda fault: fault[0], reverse=True):
        if k < 0:
            rules[player] = bad
            continue
        entries = list(rules[player])
        if part == 0:
            entries[k] = bad
        else:
            entries[k] = entries[k][:part - 1] + (bad,) + entries[k][part:]
        rules[player] = tuple(entries)
    return tuple(rules)


def error_of(game, place, bad):
    """What is told if this bad value stands at this place."""
    player, k, part = place
    if k < 0:
        return ("rule", player)
    if part == 0:
        return ("entry", player, k)
    if part == 1:
        return ("when", player, k, condition_error(place_of_wires(game), bad))
    return ("what", player, k, term_error(place_of_wires(game), bad))


def first_fault(game, value):
    """What is told of a value of any kind."""
    if type(value) is not tuple or len(value) != game[0]:
        return "form"
    for player, rule in enumerate(value):
        if type(rule) is not tuple or len(rule) > 7:
            return ("rule", player)
        for k, entry in enumerate(rule):
            if type(entry) is not tuple or len(entry) != 2:
                return ("entry", player, k)
            for place, part in (((player, k, 1), entry[0]), ((player, k, 2), entry[1])):
                if error_of(game, place, part)[3] is not None:
                    return error_of(game, place, part)
    return None


def all_places(wire):
    """The places of a wire that can be spoilt, in the order in which they are told."""
    found = []
    for player, rule in enumerate(wire):
        found.append((player, -1, 0))
        found.extend((player, k, part) for k in range(len(rule)) for part in range(3))
    return found


def bad_values(place):
    """Values that are wrong at a place."""
    if place[1] < 0:
        return BAD_RULES
    return (BAD_ENTRIES, BAD_WHENS, BAD_WHATS)[place[2]]


class Errors(unittest.TestCase):
    def test_wires_of_many_games_are_wires(self):
        things = Things(41)
        for game in some_games(41, 60):
            wires = [things.wire(game), things.wire(game, 4), silent_wire(game), bare_wire(game), plain_wire(game)]
            for wire in wires:
                self.assertIsNone(wire_error(game, wire), (game, wire))

    def test_a_wire_has_a_rule_for_each_player(self):
        for game in some_games(42, 10):
            for many in range(7):
                self.assertEqual(wire_error(game, ((),) * many), None if many == game[0] else "form")
        for value in (OWN[:1], OWN + ((),), (OWN,), list(OWN), [(), ()], {0: (), 1: ()}, "to\nto", "ab", None):
            self.assertEqual(wire_error(HIDE, value), "form")

    def test_values_of_any_kind(self):
        for value in ODD_VALUES:
            for wire in (value, (value, ()), (OWN[0], value), ((value,), ()), ((), (ENTRY, value)),
                         (((value, ZERO),), ()), ((ENTRY, (YES, value)), ()), ((), ((value, value),))):
                self.assertEqual(wire_error(HIDE, wire), first_fault(HIDE, wire), wire)

    def test_a_rule_has_at_most_seven_entries(self):
        for many in range(12):
            self.assertEqual(wire_error(HIDE, ((), (ENTRY,) * many)), None if many <= 7 else ("rule", 1))

    def test_a_fault_in_each_place(self):
        things = Things(43)
        for wire in [OWN] + [things.wire(HIDE) for _ in range(5)]:
            for place in all_places(wire):
                for bad in bad_values(place):
                    value = spoilt(wire, {place: bad})
                    self.assertEqual(wire_error(HIDE, value), error_of(HIDE, place, bad), (place, bad))

    def test_the_first_of_several_faults_is_told(self):
        things = Things(44)
        for wire in [OWN] + [things.wire(HIDE) for _ in range(3)]:
            for one, other in itertools.combinations(all_places(wire), 2):
                for _ in range(3):
                    faults = {place: things.random.choice(bad_values(place)) for place in (one, other)}
                    # What is no entry has no condition and no term.
                    wanted = error_of(HIDE, one, faults[one])
                    self.assertEqual(wire_error(HIDE, spoilt(wire, faults)), wanted, faults)
            for _ in range(50):
                places = [place for place in all_places(wire) if things.random.random() < 0.3]
                faults = {place: things.random.choice(bad_values(place)) for place in places}
                if faults:
                    first = min(faults)
                    self.assertEqual(wire_error(HIDE, spoilt(wire, faults)), error_of(HIDE, first, faults[first]))

    def test_what_entries_may_ask(self):
        asked = (("cell", 1), ("was", 1), ("draw",), ("deed",))
        for term in asked:
            entry = (("either", ("done",), ("same", term, ZERO)), term)
            self.assertIsNone(wire_error(HIDE, ((entry,), (entry, entry))))
        self.assertEqual(wire_error(HIDE, ((), (ENTRY, (YES, ("was", 2))))), ("what", 1, 1, ("part", ())))
        self.assertEqual(wire_error(HIDE, ((), (ENTRY, (("same", ZERO, ("cell", 2)), ZERO)))),
                         ("when", 1, 1, ("part", (2,))))
        self.assertEqual(wire_error(HIDE, (((DEEP, ZERO),), ())), ("when", 0, 0, "deep"))
        self.assertEqual(wire_error(HIDE, (((YES, DEEP_TERM),), ())), ("what", 0, 0, "deep"))
        self.assertEqual(wire_error(HIDE, (((WIDE, ZERO),), ())), ("when", 0, 0, "parts"))
        self.assertEqual(wire_error(HIDE, (((YES, WIDE_TERM),), ())), ("what", 0, 0, "parts"))


class Without(unittest.TestCase):
    def test_all_lots_of_entries(self):
        for player, rule in enumerate(OWN):
            for many in range(len(rule) + 1):
                for entries in itertools.combinations(range(len(rule)), many):
                    left = tuple(entry for k, entry in enumerate(rule) if k not in entries)
                    wanted = OWN[:player] + (left,) + OWN[player + 1:]
                    self.assertEqual(wire_without(OWN, player, entries), wanted)

    def test_values_that_are_no_ascending_numbers_of_entries_are_unfit(self):
        others = [(1, 0), (0, 0), (1, 1), (-1,), (2,), (0, 2), (False,), (0, True), (True,), [0], [], {0: 0}, {}, 0,
                  "0", "", ("0",), (None,), ((0,),), (0, None), None, (0, 1, 2), (10 ** 399,)]
        for other in others + [value for value in ODD_VALUES if value not in ((), (0,))]:
            with self.assertRaises(Unfit, msg=other) as caught:
                wire_without(OWN, 0, other)
            self.assertEqual(vars(caught.exception), {})
        for other in ((0,), (0, 1)):
            self.assertRaises(Unfit, wire_without, silent_wire(HIDE), 0, other)
        self.assertEqual(wire_without(silent_wire(HIDE), 0, ()), silent_wire(HIDE))

    def test_fewer_entries_tell_the_same_letters_without_these_items(self):
        things = Things(45)
        for game in some_games(45, 25):
            wire = things.wire(game)
            play = Model(game).some_play(things.random, 6)
            for player, rule in enumerate(wire):
                entries = tuple(k for k in range(len(rule)) if things.random.random() < 0.5)
                less = wire_without(wire, player, entries)
                self.assertIsNone(wire_error(game, less))
                for other in range(game[0]):
                    gone = entries if other == player else ()
                    wanted = tuple(tuple(item for k, item in enumerate(one) if k not in gone)
                                   for one in heard_by(game, wire, other, play))
                    self.assertEqual(heard_by(game, less, other, play), wanted)

    def test_the_known_wires_are_cut_as_well(self):
        self.assertEqual(wire_without(bare_wire(HIDE), 1, (0, 1)), (bare_wire(HIDE)[0], ()))
        self.assertEqual(len(wire_without(changes_wire(HIDE), 0, (1,))[0]), 2)


if __name__ == "__main__":
    unittest.main()

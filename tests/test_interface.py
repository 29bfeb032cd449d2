"""The bounds, the errors, and how the functions are called."""

import copy
import inspect
import itertools
import unittest

from knownplay import bounds, errors, games, gametexts, knowngames, knownwires, plays, playtexts, terms, termtexts
from knownplay import views, wires, wiretexts
from tests.things import ALL_WORDS, ASKED_CARD, CARD, HIDE, YES

BOUNDS = {
    "MAX_DEEP": 6, "MAX_PARTS": 60, "MAX_PLAYERS": 4, "MAX_CELLS": 6, "MAX_SIZE": 6, "MAX_DEEDS": 8,
    "MAX_OUTCOMES": 4, "MAX_TABLE": 3000, "MAX_ENTRIES": 7, "MAX_LAG": 200, "MAX_EVENTS": 400, "MAX_NUMBER": 10000,
    "MAX_OPEN": 8, "MAX_TRIES": 4, "MAX_PLANES": 100, "MAX_HINTED": 30, "MAX_SHARDS": 6, "MAX_OCCURRENCES": 16,
    "MAX_EDITS": 120, "MAX_GUESTS": 4,
}

ERRORS = {
    "Unfit": (), "BadText": ("place",), "BadTerm": ("error",), "BadGame": ("error",), "BadWire": ("error",),
    "BadRule": ("error",), "BadLog": ("place",), "Refused": ("word",), "TooMany": ("limit",), "TooManyEdits": (),
    "NothingToUndo": (), "NothingToRedo": (),
}

PLACE = (2, ALL_WORDS)
TERM = ("choose", ("both", ("done",), ("yes",)), ("was", 1), ("less", ("draw",), ("cell", 0)))
CONDITION = ("either", ("same", ("deed",), ("is", 7)), ("not", ("below", TERM, ("is", 1))))
MOMENT = ((3, 4), (5, 6), 7, 8, True)
NAMING = ((1, 0), (1, 0), (1, 0))
LISTS = ["sum", [{"is": 0}], ("is", [0])]
PLAY = ((0, 2), (2, 0), (1, 0), (2, 1))
VIEW = ((None, (None, 0)), (0, (1, None)), (("no", 2), (1, 1)))
WIRE = (((YES, ("cell", 0)), (("done",), ("was", 1))), ((("not", YES), ("deed",)), (YES, ("draw",))))
LETTERS = ((1, None), (None, 3), (-1, 4), (None, 3))

# For each function its module and some calls, the arguments by name in the order that the document tells.
CALLS = {
    "term_error": (terms, [{"place": PLACE, "value": TERM}, {"place": PLACE, "value": LISTS}]),
    "condition_error": (terms, [{"place": PLACE, "value": CONDITION}, {"place": PLACE, "value": LISTS}]),
    "worth": (terms, [{"term": TERM, "moment": MOMENT}]),
    "holds": (terms, [{"condition": CONDITION, "moment": MOMENT}]),
    "asked": (terms, [{"thing": TERM}, {"thing": CONDITION}]),
    "term_text": (termtexts, [{"term": TERM}]),
    "condition_text": (termtexts, [{"condition": CONDITION}]),
    "read_term": (termtexts, [{"place": PLACE, "value": "(c0 + w1)"}, {"place": PLACE, "value": LISTS}]),
    "read_condition": (termtexts, [{"place": PLACE, "value": "(c0 = c9)"}, {"place": PLACE, "value": LISTS}]),
    "game_error": (games, [{"value": CARD}, {"value": LISTS}, {"value": (2, ((2, 0),), (LISTS,), LISTS)}]),
    "first_state": (games, [{"game": CARD}]),
    "renamed": (games, [{"game": CARD, "naming": NAMING}, {"game": CARD, "naming": [[0, 1], [0, 1], [0, 1]]}]),
    "game_text": (gametexts, [{"game": CARD}]),
    "read_game": (gametexts, [{"value": "players 2\ncell 2 0\nset 0 to 1"}, {"value": LISTS}]),
    "known_names": (knowngames, [{}]),
    "known_game": (knowngames, [{"name": "cups"}, {"name": LISTS}]),
    "moves": (plays, [{"game": ASKED_CARD, "state": (2, 1)}]),
    "is_done": (plays, [{"game": ASKED_CARD, "state": (2, 1), "move": (1, 0)}]),
    "stepped": (plays, [{"game": ASKED_CARD, "state": (2, 1), "move": move} for move in ((2, 1), (0, 0), LISTS)]),
    "play_error": (plays, [{"game": ASKED_CARD, "value": value} for value in (PLAY, LISTS, ((0, 2), LISTS))]),
    "state_of": (plays, [{"game": ASKED_CARD, "play": PLAY}]),
    "states": (plays, [{"game": ASKED_CARD}]),
    "nearest": (plays, [{"game": ASKED_CARD, "state": state} for state in ((2, 1), (3, 1), LISTS, ([0], 0))]),
    "sight": (views, [{"game": ASKED_CARD, "player": 1, "state": (2, 0)}]),
    "view": (views, [{"game": ASKED_CARD, "player": 1, "play": PLAY}]),
    "alike_to": (views, [{"game": ASKED_CARD, "player": 1, "play": PLAY[:1], "other": ((0, 1),)},
                         {"game": ASKED_CARD, "player": 1, "play": PLAY[:1], "other": ((1, 0),)}]),
    "play_text": (playtexts, [{"play": PLAY}]),
    "view_text": (playtexts, [{"view": VIEW}]),
    "read_play": (playtexts, [{"value": "0:2 2:0"}, {"value": "0:2 2"}, {"value": LISTS}]),
    "wire_error": (wires, [{"game": HIDE, "value": value} for value in (WIRE, LISTS, (WIRE[0], (LISTS,)))]),
    "wire_without": (wires, [{"wire": WIRE, "player": 1, "entries": entries} for entries in ((0,), (2,), LISTS)]),
    "letter": (wires, [{"game": HIDE, "wire": WIRE, "player": 1, "state": (1, 2), "move": (1, 0)}]),
    "first_letter": (wires, [{"game": HIDE, "wire": WIRE, "player": 1}]),
    "letter_order": (wires, [{"some": LETTERS}]),
    "heard": (wires, [{"game": HIDE, "wire": WIRE, "ears": (0, 1), "play": ((0, 0), (1, 1))}]),
    "heard_by": (wires, [{"game": HIDE, "wire": WIRE, "player": 1, "play": ((0, 0), (1, 1))}]),
    "plain_wire": (knownwires, [{"game": HIDE}]),
    "changes_wire": (knownwires, [{"game": HIDE}]),
    "bare_wire": (knownwires, [{"game": HIDE}]),
    "silent_wire": (knownwires, [{"game": HIDE}]),
    "wire_text": (wiretexts, [{"wire": WIRE}]),
    "read_wire": (wiretexts, [{"game": HIDE, "value": value} for value in ("to\nif yes tell c1\nto", "to", LISTS)]),
}


def outcome(function, *args, **named):
    """What a call returns, or the error that it raises, as Python shows it."""
    try:
        return repr(function(*args, **named))
    except errors.KnowError as error:
        return f"{type(error).__name__} {vars(error)!r}"


def is_plain(value):
    """Whether a value is made of tuples, integers, strings, bools and None alone."""
    if type(value) is tuple:
        return all(is_plain(item) for item in value)
    return value is None or type(value) in (int, str, bool)


class Bounds(unittest.TestCase):
    def test_all_bounds_have_their_values(self):
        for name, bound in BOUNDS.items():
            self.assertIs(type(getattr(bounds, name)), int, name)
            self.assertEqual(getattr(bounds, name), bound, name)

    def test_there_are_no_others(self):
        self.assertEqual({name for name in vars(bounds) if name.startswith("MAX")}, set(BOUNDS))


class Errors(unittest.TestCase):
    def test_the_first_error_is_a_value_error(self):
        self.assertEqual(errors.KnowError.__bases__, (ValueError,))

    def test_all_others_stand_directly_under_it(self):
        for name in ERRORS:
            self.assertEqual(getattr(errors, name).__bases__, (errors.KnowError,), name)
            self.assertEqual(getattr(errors, name).__module__, "knownplay.errors", name)

    def test_they_are_raised_as_know_errors_and_value_errors(self):
        for name, fields in ERRORS.items():
            for kind in (errors.KnowError, ValueError):
                with self.assertRaises(kind):
                    raise getattr(errors, name)(*fields)

    def test_they_take_what_they_are_made_with_and_nothing_else(self):
        for name, fields in ERRORS.items():
            kind = getattr(errors, name)
            if fields:
                self.assertEqual(list(inspect.signature(kind).parameters), list(fields), name)
                self.assertRaises(TypeError, kind)
                self.assertRaises(TypeError, kind, 1, 2)
            self.assertEqual(vars(kind(*fields)), {field: field for field in fields}, name)

    def test_they_keep_just_what_they_were_made_with(self):
        kept = (None, True, 0, -1, 10 ** 399, "", "word", (), ("part", (1, 2)), [1, [2]], {"a": []}, (("deep",),))
        for name, fields in ERRORS.items():
            for field, item in itertools.product(fields, kept):
                before = copy.deepcopy(item)
                by_place = getattr(errors, name)(item)
                by_name = getattr(errors, name)(**{field: item})
                self.assertIs(getattr(by_place, field), item, name)
                self.assertIs(getattr(by_name, field), item, name)
                self.assertEqual(repr(item), repr(before), name)
                self.assertIsInstance(str(by_place) + str(by_name), str)


class Calls(unittest.TestCase):
    def test_functions_are_defined_where_they_are_listed(self):
        for name, (module, _) in CALLS.items():
            self.assertTrue(inspect.isfunction(getattr(module, name)), name)
            self.assertEqual(getattr(module, name).__module__, module.__name__, name)

    def test_arguments_have_the_names_that_are_told(self):
        for name, (module, calls) in CALLS.items():
            parameters = inspect.signature(getattr(module, name)).parameters
            self.assertEqual(list(parameters), list(calls[0]), name)
            for parameter in parameters.values():
                self.assertEqual(parameter.kind, inspect.Parameter.POSITIONAL_OR_KEYWORD, name)

    def test_arguments_are_taken_by_place_and_by_name_in_any_order(self):
        for name, (module, calls) in CALLS.items():
            function = getattr(module, name)
            for call in calls:
                wanted = outcome(function, *call.values())
                for names in itertools.permutations(call):
                    self.assertEqual(outcome(function, **{field: call[field] for field in names}), wanted, name)

    def test_what_is_handed_in_stays_as_it_was(self):
        for name, (module, calls) in CALLS.items():
            for call in calls:
                before = repr(copy.deepcopy(call))
                outcome(getattr(module, name), **call)
                self.assertEqual(repr(call), before, name)

    def test_results_are_of_pythons_own_kinds(self):
        for name, (module, calls) in CALLS.items():
            for call in calls:
                try:
                    self.assertTrue(is_plain(getattr(module, name)(**call)), name)
                except errors.KnowError as error:
                    self.assertTrue(is_plain(tuple(vars(error).values())), name)

    def test_equal_calls_have_equal_results(self):
        for name, (module, calls) in CALLS.items():
            for call in calls:
                first, second = (outcome(getattr(module, name), **copy.deepcopy(call)) for _ in range(2))
                self.assertEqual(first, second, name)


if __name__ == "__main__":
    unittest.main()

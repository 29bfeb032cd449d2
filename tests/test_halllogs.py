"""The texts of joiners' rules and of logs, and halls behind logs."""

import unittest

from knownplay.errors import BadGame, BadLog, BadRule, BadText, BadWire
from knownplay.halllogs import hall_behind, hall_log, log_text, read_log, read_rule, rule_text
from knownplay.halls import Hall
from knownplay.joiners import rule_error
from knownplay.knownwires import plain_wire
from knownplay.termtexts import condition_text, term_text
from tests.knowing import MIXED, counting
from tests.test_halls import WIRE, everything, some_halls
from tests.test_leaks import BOX, FAIR, WHETHER
from tests.things import ALL_WORDS, ODD_VALUES, YES, Things

MANY = {"offer": 2, "take": 2, "serve": 2, "come": 2, "twice": 2, "lose": 2, "ask": 2, "mend": 1, "join": 1, "undo": 0,
        "redo": 0}


def raised(test, error, call, *arguments):
    """The fields of the error that a call raises."""
    with test.assertRaises(error) as caught:
        call(*arguments)
    test.assertIs(type(caught.exception), error)
    return vars(caught.exception)


def some_log(things, many):
    """A log of so many calls, of numbers of one to four figures."""
    found = []
    for _ in range(many):
        word = things.random.choice(sorted(MANY))
        numbers = [things.random.choice((0, 1, 9, 10, 99, 100, 999, 1000, 9999, things.random.randrange(10000)))
                   for _ in range(MANY[word])]
        found.append((word, *numbers))
    return tuple(found)


class Rules(unittest.TestCase):
    def test_texts_of_drawn_rules(self):
        things = Things(641)
        for _ in range(150):
            game = things.game()
            place = (len(game[1]), ())
            rule = tuple((things.condition(place, 3), things.term(place, 3))
                         for _ in range(things.random.randint(0, 7)))
            text = rule_text(rule)
            self.assertEqual(text, "\n".join(f"if {condition_text(when)} tell {term_text(what)}" for when,
                                             what in rule))
            self.assertEqual(read_rule(game, text), rule)

    def test_no_entries(self):
        self.assertEqual((rule_text(()), read_rule(BOX, "")), ("", ()))
        self.assertEqual(raised(self, BadText, read_rule, BOX, "\n"), {"place": 0})

    def test_lines_that_are_none(self):
        right = "if yes tell c1"
        for line in ("", "to", "if yes tell", "if yes tell ", "if yes  tell c1", " if yes tell c1", "if yes tell c1 ",
                     "If yes tell c1",
                     "if yes tell c01", "if c0 tell c1", "if yes tell yes", "if done tell c1", "if yes tell deed",
                     "if yes tell draw",
                     "if yes tell w0", "if (w0 = 1) tell c1", "if yes tell 100", "if yes tell -1", "yes tell c1",
                     "if yes c1",
                     "if yes tell " + "(" * 6 + "c0" + " + 1)" * 6, "if " + "not " * 6 + "yes tell c1",
                     "if yes tell c1\r"):
            for text, place in ((line, 0), (right + "\n" + line, 1), (right + "\n" + line + "\nnone", 1),
                                (right + "\n" + right + "\n" + line, 2)):
                if text:
                    self.assertEqual(raised(self, BadText, read_rule, BOX, text), {"place": place}, text)
        self.assertEqual(raised(self, BadText, read_rule, BOX, right + "\n"), {"place": 1})

    def test_values_of_any_kind(self):
        for value in ODD_VALUES + MIXED:
            if value == "":
                self.assertEqual(read_rule(BOX, value), ())
            else:
                self.assertEqual(raised(self, BadText, read_rule, BOX, value), {"place": 0})

    def test_rules_that_do_not_fit(self):
        for text in ("if yes tell c2", "if yes tell c1\nif (c999999999 = 1) tell c1",
                     "\n".join(["if yes tell c1"] * 8)):
            error = raised(self, BadRule, read_rule, BOX, text)["error"]
            self.assertEqual(error, ("entry", 0) if text.endswith("c2") else ("entry", 1) if "9" in text else "form")
        self.assertEqual(rule_error(BOX, read_rule(BOX, "\n".join(["if yes tell c1"] * 7))), None)
        # Lines are looked at first.
        self.assertEqual(raised(self, BadText, read_rule, BOX, "if yes tell c2\nif"), {"place": 1})
        self.assertEqual(raised(self, BadText, read_rule, BOX, "if yes tell c1\n" * 8), {"place": 8})


class Logs(unittest.TestCase):
    def test_calls_of_each_kind(self):
        log = (("offer", 1, 2), ("take", 0, 3), ("serve", 10, 0), ("come", 0, 9999), ("twice", 3, 100), ("lose", 2, 0),
               ("ask", 7, 12),
               ("mend", 5), ("join", 0), ("undo",), ("redo",))
        text = "offer 1 2\ntake 0 3\nserve 10 0\ncome 0 9999\ntwice 3 100\nlose 2 0\nask 7 12\nmend 5\njoin 0\nundo\nredo\n"
        self.assertEqual(log_text(log), text)
        self.assertEqual((read_log(text), read_log(text[:-1])), (log, log))
        self.assertEqual((log_text(()), read_log("")), ("", ()))

    def test_drawn_logs(self):
        things = Things(642)
        for many in list(range(12)) + [100, 479, 480]:
            log = some_log(things, many)
            text = log_text(log)
            self.assertEqual(text.count("\n"), many)
            self.assertEqual(read_log(text), log)
            self.assertEqual(read_log(text[:-1]), log)

    def test_lines_that_are_none(self):
        for line in ("offer", "offer 1", "offer 1 2 3", "offer 1  2", "offer  1 2", " offer 1 2", "offer 1 2 ",
                     "offer 01 2", "offer 1 00", "offer 1 12345",
                     "offer 1 10000", "offer -1 2", "offer +1 2", "offer 1 a", "offer 1,2", "Offer 1 2", "offers 1 2",
                     "mend", "mend 1 2", "mend 00001",
                     "join", "undo 1", "undo ", "redo 0", "", " ", "none", "come 0 1.0", "come 0 1_0", "serve None 1",
                     "lose 0 1\t", "come 0 \u0661",
                     "come 0 \u00b2"):
            for text, place in ((line + "\n", 0), ("undo\n" + line + "\n", 1), ("undo\n" + line + "\nundo", 1),
                                ("undo\nundo\n" + line + "\nx", 2)):
                self.assertEqual(raised(self, BadText, read_log, text), {"place": place}, text)
            if line:
                self.assertEqual(raised(self, BadText, read_log, "undo\n" + line), {"place": 1})
        self.assertEqual(raised(self, BadText, read_log, "undo\n\n"), {"place": 1})

    def test_as_many_calls_as_there_may_be(self):
        self.assertEqual(len(read_log("undo\n" * 480)), 480)
        self.assertEqual(len(read_log("undo\n" * 479 + "undo")), 480)
        for text in ("undo\n" * 481, "undo\n" * 480 + "undo", "undo\n" * 480 + "none", "undo\n" * 600,
                     "undo\n" * 480 + "\n"):
            self.assertEqual(raised(self, BadText, read_log, text), {"place": 480})
        self.assertEqual(raised(self, BadText, read_log, "undo\n" * 479 + "none\n" + "undo\n" * 9), {"place": 479})

    def test_values_of_any_kind(self):
        for value in ODD_VALUES + MIXED:
            if value == "":
                self.assertEqual(read_log(value), ())
            else:
                self.assertEqual(raised(self, BadText, read_log, value), {"place": 0})


class Behind(unittest.TestCase):
    def test_halls_behind_their_logs(self):
        for hall, _ in some_halls(643, 40):
            again = hall_behind(hall.game, hall.wire, hall.rule, hall_log(hall))
            self.assertEqual((again == hall, everything(again)), (True, everything(hall)))
            self.assertEqual(hall_log(hall), hall.edits)
            self.assertEqual(read_log(log_text(hall_log(hall))), hall_log(hall))
            if hall.version > 2:
                hall.undo()
                hall.undo()
                self.assertEqual(hall_behind(hall.game, hall.wire, hall.rule, hall_log(hall)), hall)
                longer = hall_log(again) + (("undo",), ("undo",))
                other = hall_behind(hall.game, hall.wire, hall.rule, longer)
                self.assertEqual((other == hall, other.undone, hall_log(other)), (True, 2, hall_log(hall)))

    def test_calls_that_raise(self):
        right = (("serve", 0, 1), ("offer", 0, 1), ("take", 0, 0))
        for call in (("serve", 0, 0), ("offer", 1, 1), ("take", 0, 0), ("come", 0, 9), ("mend", 0), ("redo",),
                     ("join", 2), ("lose", True, 0),
                     ("ask", 0, None), ("offer", None, [1]), ("twice", {}, ())):
            for ahead in range(3, 5):
                log = right + (("undo",), ("redo",))[:2 * (ahead - 3)] + (call,) + (("undo",),) * 3
                self.assertEqual(raised(self, BadLog, hall_behind, BOX, WIRE, (), log), {"place": len(log) - 4})
        self.assertEqual(raised(self, BadLog, hall_behind, BOX, WIRE, (), (("undo",),)), {"place": 0})
        self.assertEqual(raised(self, BadLog, hall_behind, BOX, WIRE, (), (("twice", 0, 0),) * 121), {"place": 120})
        game = counting((6, 6, 6, 6, 6))
        self.assertEqual(raised(self, BadLog, hall_behind, game, plain_wire(game), (), (("offer", 0, 0), ("join", 0))),
                         {"place": 1})

    def test_items_that_are_no_calls(self):
        for item in ODD_VALUES + MIXED + (["undo"], ("undo", 0), ("offer", 0), ("offer", 0, 1, 2), (("undo",),),
                                          ("Undo",), ("state",), ("mend",),
                                          ("redo", None), (None, 0, 1), ("serve", (0, 1))):
            self.assertEqual(raised(self, BadLog, hall_behind, BOX, WIRE, (), (("serve", 0, 1), item)), {"place": 1})

    def test_values_of_any_kind(self):
        for value in ODD_VALUES + MIXED + ([("serve", 0, 1)], "serve 0 1\n"):
            if value == ():
                self.assertEqual(hall_behind(BOX, WIRE, (), value), Hall(BOX, WIRE, ()))
            else:
                self.assertEqual(raised(self, BadLog, hall_behind, BOX, WIRE, (), value), {"place": 0})

    def test_what_makes_no_hall_is_told_first(self):
        self.assertEqual(raised(self, BadGame, hall_behind, None, None, None, None), {"error": "form"})
        self.assertEqual(raised(self, BadWire, hall_behind, BOX, (FAIR,), None, None), {"error": "form"})
        self.assertEqual(raised(self, BadRule, hall_behind, BOX, WIRE, (WHETHER, YES), None), {"error": "form"})

    def test_more_calls_than_a_log_has(self):
        log = (("twice", 0, 0),) + (("undo",), ("redo",)) * 300
        self.assertEqual(hall_behind(BOX, WIRE, (), log).version, 1)

    def test_words_of_terms_play_no_part(self):
        self.assertEqual([word for word in ALL_WORDS if word in MANY], [])


if __name__ == "__main__":
    unittest.main()

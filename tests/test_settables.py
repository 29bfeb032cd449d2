"""Tables of sets, the rows that lead to each, and what is told of values that are no such table."""

import itertools
import unittest

from knownplay.errors import Unfit
from knownplay.knowngames import known_game, known_names
from knownplay.knownwires import bare_wire, plain_wire, silent_wire
from knownplay.sets import known, next_letters
from knownplay.settables import number_of, row_to, set_table, table_error
from knownplay.wires import heard
from tests.knowing import LIMIT, MIXED, Knowing, counting, far_from, some_knowing, too_many
from tests.model import Model
from tests.test_sets import FLIP, LISTENING, QUIET
from tests.things import ODD_VALUES, Things

SIZES = (5, 5, 5, 6, 4)


class Tables(unittest.TestCase):
    def test_the_table_in_its_order(self):
        several = 0
        for knowing in some_knowing(141, 250):
            table = set_table(knowing.game, knowing.wire, knowing.ears)
            self.assertEqual(table, knowing.table())
            several += len(table) > 3
        self.assertGreater(several, 80)

    def test_known_games(self):
        for name in known_names():
            game = known_game(name)
            for wire in (plain_wire(game), bare_wire(game), silent_wire(game)):
                for ears in ((0,), (1,), (0, 1)):
                    knowing = Knowing(game, wire, ears)
                    wanted = knowing.table()
                    self.assertEqual(set_table(game, wire, ears), wanted)

    def test_just_3000_items_and_one_more(self):
        game = counting(SIZES)
        for ears in ((0,), (0, 1)):
            self.assertEqual(sum(len(some) for some, _ in set_table(game, bare_wire(game), ears)), LIMIT)
        game = counting(SIZES, (4, 4, 4, 5, 3))
        for ears in ((0,), (1,)):
            too_many(self, lambda: set_table(game, bare_wire(game), ears))
            for some in (((0,) * 6,), (), None, ((9,),)):
                too_many(self, lambda: row_to(game, bare_wire(game), ears, some))

    def test_items_are_counted_and_not_sets(self):
        # Who hears nothing of counting knows ever more states: 1, then 2, up to all.
        for size, many in ((6, 1), (6, 2), (6, 3)):
            game = counting((size,) * many)
            table = set_table(game, silent_wire(game), (1,))
            items = sum(len(some) for some, _ in table)
            self.assertEqual(table, Knowing(game, silent_wire(game), (1,)).table())
            self.assertLessEqual(items, LIMIT)
        game = counting((6, 6, 6, 6, 6))
        too_many(self, lambda: set_table(game, silent_wire(game), (1,)))


class Numbers(unittest.TestCase):
    def test_of_rows_of_short_plays(self):
        for knowing in some_knowing(142, 60):
            game, wire, ears = knowing.game, knowing.wire, knowing.ears
            table = set_table(game, wire, ears)
            for ticks in range(4):
                for row, some in knowing.known_by_plays(ticks).items():
                    self.assertEqual(table[number_of(table, row)][0], some)
                    for first in (None, 0, (), ((True,),), [], "x"):
                        self.assertEqual(number_of(table, (first,) + row[1:]), number_of(table, row))

    def test_of_rows_that_lead_nowhere(self):
        for knowing in some_knowing(143, 40):
            game, wire, ears = knowing.game, knowing.wire, knowing.ears
            table = set_table(game, wire, ears)
            rows = knowing.known_by_plays(2)
            letters = {told for row in rows for told in row}
            for row in itertools.product(letters, repeat=2):
                whole = (knowing.first_letters(),) + row
                number = number_of(table, whole)
                self.assertEqual(() if number is None else table[number][0], known(game, wire, ears, whole))
        table = set_table(*LISTENING)
        for value in ODD_VALUES + MIXED:
            if not isinstance(value, tuple) or not value:
                self.assertIsNone(number_of(table, value))
            self.assertEqual(number_of(table, (value,)), 0)
            self.assertIsNone(number_of(table, (((None, 0),), value)))
        for item in ((True, 1), (None, False), (None, 0, 0), (None,), [None, 0], (1, 1)):
            self.assertIsNone(number_of(table, (((None, 0),), (item,))))

    def test_of_a_long_row(self):
        game = known_game("cups")
        play = Model(game).some_play(Things(144).random, 3000)
        row = heard(game, plain_wire(game), (1,), play)
        table = set_table(game, plain_wire(game), (1,))
        self.assertEqual(table[number_of(table, row)][0], known(game, plain_wire(game), (1,), row))


class Rows(unittest.TestCase):
    def test_as_short_as_can_be(self):
        far = 0
        for knowing in some_knowing(145, 120):
            game, wire, ears = knowing.game, knowing.wire, knowing.ears
            for some, many in far_from(knowing.alone(), knowing.sets_behind).items():
                row = row_to(game, wire, ears, some)
                self.assertEqual((len(row), known(game, wire, ears, row)), (many + 1, some))
                far = max(far, many)
        self.assertGreater(far, 4)

    def test_of_what_never_comes(self):
        for some in ODD_VALUES + MIXED + (((0, 1), (1, 0)), ((1, 0), (0, 0)), [(0, 0)], ((False, 0),), ((0, False),),
                                          ((0, 0), (0, 0)), (0, 0), ((0, 2),), (((0, 0),),), ((1, 0),)):
            with self.assertRaises(Unfit) as caught:
                row_to(*LISTENING, some)
            self.assertEqual(vars(caught.exception), {})
        self.assertEqual(row_to(*LISTENING, ((0, 0),)), (((None, 0),),))


def spoilt(table, k, some="as it is", leads="as it is"):
    """The table with another set, or other leads, in its item k."""
    item = (table[k][0] if some == "as it is" else some, table[k][1] if leads == "as it is" else leads)
    return table[:k] + (item,) + table[k + 1:]


def turned(table, order):
    """The table with its items in another order, and the numbers that belong to it."""
    return tuple((table[k][0], tuple((letters, order.index(number)) for letters, number in table[k][1])) for k in order)


class Errors(unittest.TestCase):
    def tables(self, seed, many, least=2):
        """Some Knowings with a table of so many sets or more, and this table."""
        found = [(knowing, knowing.table()) for knowing in some_knowing(seed, many)]
        return [(knowing, table) for knowing, table in found if len(table) >= least]

    def error(self, knowing, value):
        """What is told of a value."""
        return table_error(knowing.game, knowing.wire, knowing.ears, value)

    def test_tables_are_tables(self):
        for knowing, table in self.tables(151, 100, 1):
            self.assertIsNone(self.error(knowing, table))
            self.assertIsNone(table_error(knowing.game, knowing.wire, knowing.ears,
                                          set_table(knowing.game, knowing.wire, knowing.ears)))

    def test_values_without_form(self):
        table = set_table(*LISTENING)
        some, leads = table[1]
        bad_sets = [(), None, list(some), some[::-1], some + some[-1:], ((0, 2),), ((0,),), ((0, 0, 0),), ((False, 0),),
                    ((0, 0), (1, None)), (0, 0), ((0, 0), [1, 0]), "ab", ((0, -1),)]
        bad_leads = [None, list(leads), 0, "", (leads[0][:1],), (leads[0] + (0,),), (list(leads[0]),), (None,), ((0, 0),),
                     ((list(leads[0][0]), 1),), ((leads[0][0], 4),), ((leads[0][0], -1),), ((leads[0][0], True),),
                     ((leads[0][0], None),), ((leads[0][0], "1"),), ((None, 1),), ((leads[0][0], (1,)),)]
        values = [spoilt(table, k, some=bad) for k in range(4) for bad in bad_sets]
        values += [spoilt(table, k, leads=bad) for k in range(4) for bad in bad_leads]
        values += [table[:k] + (bad,) + table[k + 1:] for k in range(4)
                   for bad in (None, (), table[k][:1], table[k] + ((),), list(table[k]), 0, "ab", {0: 1, 1: 2})]
        values += [list(table), (), None, {}, "table", table[:3], table[0], (table,), 0, True]
        for value in values + list(ODD_VALUES) + list(MIXED):
            self.assertEqual(table_error(*LISTENING, value), "form", value)

    def test_another_beginning(self):
        for knowing, table in self.tables(152, 60):
            for k in range(1, len(table)):
                order = [k] + [other for other in range(len(table)) if other != k]
                self.assertEqual(self.error(knowing, turned(table, order)), "begun")
            wrong = spoilt(table, 0, some=table[1][0])
            self.assertEqual(self.error(knowing, wrong), "begun")
            self.assertEqual(self.error(knowing, spoilt(wrong, 1, leads=())), "begun")

    def test_other_leads(self):
        checked = 0
        for knowing, table in self.tables(153, 60):
            for k, (_, leads) in enumerate(table):
                others = [leads + leads[:1], leads[1:], leads[::-1], leads + ((((0,), (0,)), 0),)]
                for at, (letters, number) in enumerate(leads):
                    others += [leads[:at] + ((letters, (number + 1) % len(table)),) + leads[at + 1:]]
                    others += [leads[:at] + ((bad, number),) + leads[at + 1:]
                               for bad in (letters + ((),), letters[:-1], (letters,), ((True,),) * len(letters), ())]
                for other in others:
                    if other != leads:
                        checked += 1
                        self.assertEqual(self.error(knowing, spoilt(table, k, leads=other)), ("leads", k))
                        later = spoilt(spoilt(table, k, leads=other), len(table) - 1, leads=((((9, 9),), 0),))
                        self.assertEqual(self.error(knowing, later), ("leads", k))
        self.assertGreater(checked, 1000)

    def test_bools_among_letters(self):
        table = set_table(*LISTENING)
        for k, (_, leads) in enumerate(table):
            for at, (letters, number) in enumerate(leads):
                for place, item in enumerate(letters[0]):
                    if item in (0, 1):
                        letter = letters[0][:place] + (bool(item),) + letters[0][place + 1:]
                        other = leads[:at] + (((letter,), number),) + leads[at + 1:]
                        self.assertEqual(table_error(*LISTENING, spoilt(table, k, leads=other)), ("leads", k))

    def test_another_order(self):
        things = Things(154)
        checked = 0
        for knowing, table in self.tables(155, 80, 3):
            for _ in range(5):
                order = [0] + things.random.sample(range(1, len(table)), len(table) - 1)
                wrong = [k for k, number in enumerate(order) if number != k]
                self.assertEqual(self.error(knowing, turned(table, order)), ("order", wrong[0]) if wrong else None)
                checked += bool(wrong)
        self.assertGreater(checked, 40)

    def test_sets_that_are_not_met_or_stand_twice(self):
        for knowing, table in self.tables(156, 80):
            for k, item in enumerate(table):
                self.assertEqual(self.error(knowing, table + (item,)), ("order", len(table)))
                # The set stands twice, and some lead to either place.
                at = k + 1
                moved = tuple((some, tuple((letters, number + (number >= at)) for letters, number in leads))
                              for some, leads in table)
                twice = moved[:at] + (moved[k],) + moved[at:]
                self.assertEqual(self.error(knowing, twice), ("order", at))
        # From ((0, 1),) nothing but what is known already is led to; the set ((0, 0), (1, 1)) never comes.
        table = set_table(*LISTENING)
        some = ((0, 0), (1, 1))
        leads = tuple((letters, [item[0] for item in table].index(Knowing(*LISTENING).after(some, letters)))
                      for letters in next_letters(*LISTENING, some))
        self.assertEqual(table_error(*LISTENING, table + ((some, leads),)), ("order", 4))
        self.assertIsNone(table_error(*LISTENING, table))

    def test_of_several_faults_the_first_one_is_told(self):
        table = set_table(FLIP, QUIET, (1,))
        order = turned(table, [0, 2, 1, 3])
        self.assertEqual(table_error(*LISTENING, order), ("order", 1))
        self.assertEqual(table_error(*LISTENING, spoilt(order, 3, leads=())), ("leads", 3))
        self.assertEqual(table_error(*LISTENING, spoilt(spoilt(order, 3, leads=()), 0, some=((1, 1),))), "begun")
        both = spoilt(spoilt(order, 3, leads=(1,)), 0, some=((1, 1),))
        self.assertEqual(table_error(*LISTENING, both), "form")


if __name__ == "__main__":
    unittest.main()

"""Classes of sets, rows that part them, their papers, and tables of memories."""

import itertools
import unittest

from knownplay.classes import class_paper, class_paper_error, classes, memories, memories_error, parting, parting_error
from knownplay.classes import shown_by
from knownplay.errors import Unfit
from knownplay.knowngames import known_game, known_names
from knownplay.knownwires import bare_wire, plain_wire, silent_wire
from knownplay.sets import known
from tests.knowing import MIXED, Knowing, counting, letter_key, some_knowing, sure_of, too_many
from tests.things import ODD_VALUES, YES, Things

NONE = (("not", YES),)
DRAWN = ("draw",)
DIE = (2, ((3, 0),), ((None, 2, YES, ((0, DRAWN),), (0,)), (None, 2, YES, ((0, ("sum", DRAWN, DRAWN)),), (0,)),
                      (0, 1, YES, (), (0,))), (NONE, NONE))
WHICH = (YES, ("deed",))
THIRD = (("same", ("deed",), ("is", 2)), ("choose", ("below", ("cell", 0), ("is", 1)), ("is", 0), ("is", 1)))
BLIND, KEEN = ((WHICH,), ()), ((WHICH, THIRD), ())
AT_FIRST = ((3, None),)
LOW, HIGH = (AT_FIRST, ((0, None),)), (AT_FIRST, ((1, None),))
ASKED = (DIE, KEEN, (0,))
# The server lays 0 or 1, or else 0 or 2, and counts on up to 5; that it is 5 is told.
LAID, MORE = ("same", ("cell", 1), ("is", 1)), ("sum", ("cell", 0), ("is", 1))
SLOW = (2, ((6, 0), (2, 0)), ((None, 2, ("not", LAID), ((0, DRAWN), (1, ("is", 1))), (0,)),
                              (None, 2, ("not", LAID), ((0, ("sum", DRAWN, DRAWN)), (1, ("is", 1))), (0,)),
                              (None, 1, LAID, ((0, ("choose", ("same", ("cell", 0), ("is", 5)), ("is", 5), MORE)),), ())),
        (NONE * 2, NONE * 2))
SLOW_WIRE = ((WHICH, (("same", ("cell", 0), ("is", 5)), ("is", 7))), ())


def by_first_meeting(keys):
    """The numbers of keys, numbered as they are first met."""
    keys = list(keys)
    return tuple(sorted(set(keys), key=keys.index).index(key) for key in keys)


class Sorted(Knowing):
    """The sets of a Knowing, parted in rounds."""

    def at_once(self, some):
        """What two sets have to have alike that are not unlike at once."""
        return (sure_of(some), self.next_heard(some))

    def rounds(self):
        """All rounds."""
        table = self.table()
        found = [by_first_meeting(self.at_once(some) for some, _ in table)]
        while True:
            last = found[-1]
            following = by_first_meeting((number, tuple(last[to] for _, to in leads))
                                         for number, (_, leads) in zip(last, table))
            if following == last:
                return tuple(found)
            found.append(following)

    def parted_by(self, one, other, most):
        """How many letters the shortest row has behind which two sets are unlike at once; None if none up to most."""
        layer = {(one, other)}
        for many in range(most + 1):
            if any(self.at_once(some) != self.at_once(its_like) for some, its_like in layer):
                return many
            layer = {(self.after(some, letters), self.after(its_like, letters)) for some, its_like in layer
                     for letters in self.next_heard(some)}
        return None


def some_sorted(seed, many, least=1):
    """So many Sorteds of tiny games, with so many classes or more."""
    found = [Sorted(knowing.game, knowing.wire, knowing.ears) for knowing in some_knowing(seed, many, 60)]
    found += [Sorted(DIE, KEEN, (0,)), Sorted(SLOW, SLOW_WIRE, (0,)), Sorted(SLOW, SLOW_WIRE, (0, 1))]
    return [one for one in found if len(set(one.rounds()[-1])) >= least]


def rows_of(one, ticks=3, most=12):
    """Some rows that can be heard."""
    found = []
    for many in range(ticks + 1):
        found.extend(sorted(one.known_by_plays(many), key=letter_key)[:most])
    return found


class Classes(unittest.TestCase):
    def test_by_rounds(self):
        depths, fewer = set(), 0
        for one in some_sorted(301, 120):
            rounds = one.rounds()
            self.assertEqual(class_paper(one.game, one.wire, one.ears), rounds)
            self.assertEqual(classes(one.game, one.wire, one.ears), rounds[-1])
            depths.add(len(rounds))
            fewer += len(set(rounds[-1])) < len(rounds[-1])
        self.assertTrue({1, 2, 3} <= depths)
        self.assertGreater(fewer, 20)

    def test_known_games(self):
        for name in known_names():
            game = known_game(name)
            for wire, ears in itertools.product((plain_wire(game), silent_wire(game), bare_wire(game)), ((0,), (1,))):
                one = Sorted(game, wire, ears)
                self.assertEqual(class_paper(game, wire, ears), one.rounds())
                self.assertIsNone(memories_error(game, wire, ears, memories(game, wire, ears)))

    def test_too_many(self):
        game = counting((5, 5, 5, 6, 4))
        self.assertEqual(len(set(classes(game, bare_wire(game), (0,)))), 3000)
        more = counting((5, 5, 5, 6, 4), (4, 4, 4, 5, 3))
        arguments = (more, bare_wire(more), (0,))
        for call in (classes, class_paper, memories):
            too_many(self, lambda: call(*arguments))
        for call in (class_paper_error, memories_error):
            for value in (None, (), ((0,),), "x"):
                too_many(self, lambda: call(*arguments, value))
        first = (((0,) * 6,),)
        for row, other in (((), ()), (first, first), (None, first)):
            too_many(self, lambda: parting(*arguments, row, other))
        self.assertEqual(parting_error(*arguments, first, first, ()), "alike")
        with self.assertRaises(Unfit):
            parting_error(*arguments, (), first, ())


class Parting(unittest.TestCase):
    def test_as_short_as_can_be(self):
        lengths = set()
        for one in some_sorted(302, 60, 2):
            numbers = {some: number for number, (some, _) in zip(one.rounds()[-1], one.table())}
            most = len(one.rounds())
            for row, other in itertools.product(rows_of(one, 3, 5), repeat=2):
                sets = (known(one.game, one.wire, one.ears, row), known(one.game, one.wire, one.ears, other))
                many = one.parted_by(*sets, most)
                found = parting(one.game, one.wire, one.ears, row, other)
                if many is None:
                    self.assertIsNone(found)
                    self.assertEqual(numbers[sets[0]], numbers[sets[1]])
                    continue
                lengths.add(many)
                self.assertNotEqual(numbers[sets[0]], numbers[sets[1]])
                self.assertEqual(len(found), many)
                self.assertLessEqual(many, len(set(numbers.values())) - 2)
                self.assertIsNone(parting_error(one.game, one.wire, one.ears, row, other, found))
        self.assertTrue({0, 1, 2} <= lengths, lengths)

    def test_errors_of_all_short_rows(self):
        told = set()
        for one in some_sorted(303, 30, 2):
            rows = rows_of(one, 2, 4)
            letters = sorted({told for row in rows for told in row[1:]}, key=letter_key)[:4]
            values = [value for many in range(3) for value in itertools.product(letters, repeat=many)]
            for row, other in itertools.product(rows[:6], repeat=2):
                for value in values:
                    sets = [known(one.game, one.wire, one.ears, some) for some in (row, other)]
                    wanted = None
                    for k, heard in enumerate(value):
                        sets = [one.after(some, heard) for some in sets]
                        if () in sets:
                            wanted = ("letters", k)
                            break
                    if wanted is None and one.at_once(sets[0]) == one.at_once(sets[1]):
                        wanted = "alike"
                    self.assertEqual(parting_error(one.game, one.wire, one.ears, row, other, value), wanted)
                    told.add(wanted if isinstance(wanted, str) or wanted is None else wanted[0])
        self.assertEqual(told, {None, "letters", "alike"})

    def test_a_longer_row_is_one_as_well(self):
        for many in range(1, 30):
            self.assertIsNone(parting_error(*ASKED, LOW, HIGH, (((2, 1),),) * many))
        self.assertEqual(parting_error(*ASKED, LOW, HIGH, (((2, 1),),) * 5 + (((0, None),),)), "alike")
        self.assertEqual(parting_error(*ASKED, LOW, HIGH, (((2, 1),),) * 5 + (((2, 0),),)), ("letters", 5))

    def test_rows_that_cannot_be_heard(self):
        for bad in ODD_VALUES + MIXED + ((AT_FIRST, ((7, None),)), (((True, None),),), ((3, None),), [AT_FIRST],
                                         (AT_FIRST, ((False, None),))):
            for rows in ((bad, LOW), (LOW, bad), (bad, bad)):
                with self.assertRaises(Unfit):
                    parting(*ASKED, *rows)
                for value in (None, (), (((2, 1),),)):
                    with self.assertRaises(Unfit) as caught:
                        parting_error(*ASKED, *rows, value)
                    self.assertEqual(vars(caught.exception), {})

    def test_values_of_any_kind(self):
        for value in ODD_VALUES + MIXED:
            wanted = "form" if not isinstance(value, tuple) else ("letters", 0) if value else "alike"
            self.assertEqual(parting_error(*ASKED, LOW, HIGH, value), wanted)
        for letters in (((2, True),), ((2,),), ((2, 1, 1),), ((2, 1), ()), [(2, 1)], (2, 1), ((2.0, 1),)):
            self.assertEqual(parting_error(*ASKED, LOW, HIGH, (letters,)), ("letters", 0))


class ClassPapers(unittest.TestCase):
    def test_papers_with_faults(self):
        for one in some_sorted(304, 60, 2):
            rounds = one.rounds()
            last = rounds[-1]

            def error(value):
                return class_paper_error(one.game, one.wire, one.ears, value)
            self.assertIsNone(error(rounds))
            self.assertEqual(error(rounds + (last,)), ("round", len(rounds)))
            for k in range(1, len(rounds)):
                self.assertEqual(error(rounds[:k]), "rounds")
                self.assertEqual(error(rounds[k:]), ("round", 0))
                self.assertEqual(error(rounds[:k] + rounds[k + 1:]), "rounds" if k + 1 == len(rounds) else ("round", k))
                self.assertEqual(error(rounds[:k] + rounds[k - 1:]), ("round", k))
            for k, numbers in enumerate(rounds):
                for j, number in enumerate(numbers):
                    for other in (number + 1, number + 10 ** 30, 0 if number else 1):
                        wrong = numbers[:j] + (other,) + numbers[j + 1:]
                        self.assertEqual(error(rounds[:k] + (wrong,) + rounds[k + 1:]), ("round", k))
                # The same parts, numbered otherwise.
                turned = tuple(max(numbers) - number for number in numbers)
                if turned != numbers:
                    self.assertEqual(error(rounds[:k] + (turned,) + rounds[k + 1:]), ("round", k))
                for bad in (numbers[1:], numbers + (0,), list(numbers), None, numbers[:-1] + (-1,), numbers[:-1] + (True,),
                            (False,) + numbers[1:], numbers[:-1] + (None,), numbers[:-1] + ("0",), (), ((),), "ab"):
                    self.assertEqual(error(rounds[:k] + (bad,) + rounds[k + 1:]), "form")
                    self.assertEqual(error(rounds[:k] + (bad,)), "form")
            for value in ((), list(rounds), None, last, {}, "rounds", 0):
                self.assertEqual(error(value), "form")

    def test_values_of_any_kind(self):
        for value in ODD_VALUES + MIXED:
            self.assertEqual(class_paper_error(*ASKED, value), "form")


class Memories(unittest.TestCase):
    def test_one_for_each_class(self):
        for one in some_sorted(305, 80):
            numbers, table = one.rounds()[-1], one.table()
            wanted = []
            for number in range(max(numbers) + 1):
                some, leads = table[numbers.index(number)]
                wanted.append((sure_of(some), tuple((letters, numbers[to]) for letters, to in leads)))
            self.assertEqual(memories(one.game, one.wire, one.ears), tuple(wanted))
            for value in (tuple(wanted), self.of_sets(one)):
                self.assertIsNone(memories_error(one.game, one.wire, one.ears, value))
            for row in rows_of(one):
                self.assertEqual(shown_by(tuple(wanted), row[1:]), sure_of(known(one.game, one.wire, one.ears, row)))
                self.assertEqual(shown_by(self.of_sets(one), row[1:]), shown_by(tuple(wanted), row[1:]))

    def of_sets(self, one):
        """The table with a memory for each set."""
        return tuple((sure_of(some), leads) for some, leads in one.table())

    def called(self, table, order):
        """A table of memories with other numbers: at each place that of the old number in order."""
        return tuple((table[k][0], tuple((letters, order.index(to)) for letters, to in table[k][1])) for k in order)

    def test_called_otherwise_and_with_more_they_fit(self):
        things = Things(306)
        for one in some_sorted(307, 60, 2):
            table = memories(one.game, one.wire, one.ears)
            order = [0] + things.random.sample(range(1, len(table)), len(table) - 1)
            values = [self.called(table, order), table + table[-1:], table + ((table[0][0], ()),)]
            # A memory that stands twice, and to which of both is led by turns.
            twice = table + table[-1:]
            for k, (shown, leads) in enumerate(twice):
                last = len(table) - 1
                other = tuple((letters, to + (to == last and j % 2 == k % 2)) for j, (letters, to) in enumerate(leads))
                twice = twice[:k] + ((shown, other),) + twice[k + 1:]
            for value in values + [twice]:
                self.assertIsNone(memories_error(one.game, one.wire, one.ears, value))

    def shortest(self, one, value):
        """How few letters lead to where a table of memories is wrong; None if it never is."""
        layer, met = {(one.alone(), 0)}, set()
        for many in itertools.count():
            for some, number in layer:
                shown, leads = value[number]
                if shown != sure_of(some) or tuple(letters for letters, _ in leads) != one.next_heard(some):
                    return many
            met |= layer
            layer = {(one.after(some, letters), to) for some, number in layer for letters, to in value[number][1]} - met
            if not layer:
                return None

    def test_tables_that_do_not_fit(self):
        things = Things(308)
        lengths = set()
        for one in some_sorted(309, 60):
            table = self.of_sets(one)
            values = []
            for k, (shown, leads) in enumerate(table):
                values += [(k, (shown, leads[1:])), (k, (shown, ())), (k, ((None,) * len(shown), leads))]
                values += [(k, (tuple(0 if item is None else item for item in shown), leads))]
                for j, (letters, _) in enumerate(leads):
                    values.append((k, (shown, leads[:j] + ((letters, things.random.randrange(len(table))),)
                                       + leads[j + 1:])))
            for k, memory in things.random.sample(values, min(len(values), 25)):
                value = table[:k] + (memory,) + table[k + 1:]
                many = self.shortest(one, value)
                error = memories_error(one.game, one.wire, one.ears, value)
                if many is None:
                    self.assertIsNone(error)
                    continue
                lengths.add(many)
                self.assertEqual((error[0], len(error[1]), len(error)), ("row", many, 2))
                some, number = one.alone(), 0
                for letters in error[1]:
                    some, number = one.after(some, letters), dict(value[number][1])[letters]
                leads = tuple(letters for letters, _ in value[number][1])
                self.assertNotEqual((value[number][0], leads), (sure_of(some), one.next_heard(some)))
        self.assertTrue({0, 1, 2} <= lengths)

    def test_values_without_form(self):
        table = memories(*ASKED)
        shown, leads = table[1]
        (letters, to), many = leads[0], len(table)
        bad = [None, (), (shown,), (shown, leads, ()), [shown, leads], (None, leads), ((), leads), ((3,), leads),
               ((-1,), leads), ((True,), leads), ((None, None), leads), ([None], leads), (shown, None), (shown, list(leads)),
               (shown, leads[::-1]), (shown, leads + leads[-1:]), (shown, (leads[0],) * 2), (shown, ((letters, many),)),
               (shown, ((letters, -1),)), (shown, ((letters, True),)), (shown, ((letters, None),)), (shown, (letters,)),
               (shown, ((letters,),)), (shown, ((letters, to, 0),)), (shown, ([letters, to],)), (shown, (((), to),)),
               (shown, ((((0,),), to),)), (shown, ((((0, None, 0),), to),)), (shown, ((((0, True),), to),)),
               (shown, ((((0, None), (0, None)), to),)), (shown, (((0, None), to),)), (shown, ((([0, None],), to),)),
               (shown, ((None, to),)), (shown, ((((0, "0"),), to),)), (shown, ((((1, None),), 0), (((0, None),), 0)))]
        for k in range(many):
            for memory in bad:
                self.assertEqual(memories_error(*ASKED, table[:k] + (memory,) + table[k + 1:]), "form", memory)
        for value in (list(table), table[:1], table[0], {}, None) + ODD_VALUES + MIXED:
            self.assertEqual(memories_error(*ASKED, value), "form", value)
        # Letters that are never heard are letters nevertheless.
        odd = table[:1] + ((shown, leads + ((((10 ** 300, 10 ** 300),), 0),)),) + table[2:]
        self.assertEqual(memories_error(*ASKED, odd)[0], "row")

    def test_shown_by_rows_that_lead_nowhere(self):
        table = memories(*ASKED)
        for row in (None, [], [((0, None),)], "", 0, {}, True) + tuple(v for v in ODD_VALUES if not isinstance(v, tuple)):
            self.assertIsNone(shown_by(table, row))
        for letters in MIXED + ODD_VALUES + (((False, None),), ((0,),), (0, None), ((0, None), ()), [(0, None)], ((7, None),)):
            for ahead in ((), (((0, None),),)):
                self.assertIsNone(shown_by(table, ahead + (letters,)))
                self.assertIsNone(shown_by(table, ahead + (letters, ((0, None),))))
        self.assertEqual(shown_by(table, ()), (0,))
        self.assertEqual(shown_by(table, (((0, None),), ((2, 1),))), (1,))
        self.assertEqual(shown_by(table, (((0, None),), ((2, 1),)) * 1000), (1,))


if __name__ == "__main__":
    unittest.main()

"""Rows with gaps, against all plays of as many ticks; which numbers are enough, and papers of that."""

import itertools
import unittest

from knownplay.errors import TooMany, Unfit
from knownplay.gaps import asked_enough, full_error, gap_paper, gap_paper_error, known_by_gaps, least_asked
from knownplay.knowngames import known_game
from knownplay.knownwires import bare_wire, plain_wire, silent_wire
from knownplay.sets import known, sure
from knownplay.wires import heard_by
from tests.knowing import MIXED, Knowing, as_set, some_knowing, sure_of, too_many
from tests.model import Model
from tests.test_classes import DIE, KEEN
from tests.test_joiners import hidden_chain
from tests.things import ODD_VALUES, YES, Things

GAP, TWO = ((3, None), None, (2, 1)), ((3, None), None, None, (2, 1))


class Gapped(Knowing):
    """One player's row with gaps, with all full rows of it, made from all plays of as many ticks."""

    def __init__(self, game, wire, player, row):
        super().__init__(game, wire, (player,))
        self.player, self.row = player, row
        self.plays = self.plays_heard(len(row) - 1)
        self.gaps = tuple(k for k, letter in enumerate(row) if letter is None)
        self.arguments = (game, wire, player, row)
        self.full = {tuple(letters[0] for letters in heard) for _, heard, _ in self.plays}
        self.full = sorted((one for one in self.full if self.fits(row, one)), key=repr)
        self.knowns = {}

    def fits(self, row, full):
        """Whether a full row has the letters of row wherever that has any."""
        return all(letter is None or repr(letter) == repr(item) for letter, item in zip(row, full))

    def known(self, row):
        """The set known by a row with gaps."""
        if row not in self.knowns:
            self.knowns[row] = as_set(come[-1] for _, heard, come in self.plays
                                      if self.fits(row, tuple(letters[0] for letters in heard)))
        return self.knowns[row]

    def with_letters(self, numbers, full):
        """What a full row tells with numbers."""
        return tuple(full[k] if k in numbers else letter for k, letter in enumerate(self.row))

    def is_unlike(self, numbers, full):
        """Whether numbers are not enough by a full row."""
        return sure_of(self.known(full)) != sure_of(self.known(self.with_letters(numbers, full)))

    def enough(self, numbers):
        """Whether numbers are enough."""
        return not any(self.is_unlike(numbers, full) for full in self.full)

    def layers(self, numbers):
        """The pairs at each number, made of all beginnings that are let."""
        found = []
        for many in range(1, len(self.row) + 1):
            pairs = set()
            for _, heard, _ in self.plays_heard(many - 1):
                begun = tuple(letters[0] for letters in heard)
                if self.fits(self.row, begun):
                    less = tuple(begun[k] if k in numbers else self.row[k] for k in range(many))
                    ends = [as_set(come[-1] for _, other, come in self.plays_heard(many - 1)
                                   if self.fits(told, tuple(letters[0] for letters in other))) for told in (less, begun)]
                    pairs.add(tuple(ends))
            found.append(tuple(sorted(pairs)))
        return tuple(found)


def some_gapped(seed, many, ticks=4):
    """So many rows with gaps of tiny games."""
    things = Things(seed)
    found = [Gapped(DIE, KEEN, 0, row) for row in (GAP, TWO, ((3, None), None, None, (0, None)), (None,) * 4, (None, (0, None)))]
    for knowing in some_knowing(seed, many):
        player = things.random.randrange(knowing.game[0])
        one = Knowing(knowing.game, knowing.wire, (player,))
        plays = one.plays_heard(things.random.randint(0, ticks), 1500)
        if plays:
            row = tuple(letters[0] for letters in things.random.choice(plays)[1])
            row = tuple(None if things.random.random() < 0.5 else letter for letter in row)
            found.append(Gapped(knowing.game, knowing.wire, player, row))
    return found


def lots(gaps):
    """All lots of open numbers, those of fewer ahead."""
    return [lot for many in range(len(gaps) + 1) for lot in itertools.combinations(gaps, many)]


class Known(unittest.TestCase):
    def test_against_all_plays_of_as_many_ticks(self):
        things = Things(391)
        unsure = 0
        for gapped in some_gapped(392, 150):
            game, wire, player, row = gapped.arguments
            some = known_by_gaps(*gapped.arguments)
            self.assertEqual(some, gapped.known(row))
            unsure += len(some) > 1
            for full in gapped.full[:5]:
                self.assertEqual(known_by_gaps(game, wire, player, full), gapped.known(full))
                self.assertEqual(known_by_gaps(game, wire, player, full),
                                 known(game, wire, (player,), tuple((letter,) for letter in full)))
                # A letter put in at an open number leaves each cell sure that was.
                k = things.random.randrange(len(row))
                more = row[:k] + (full[k],) + row[k + 1:]
                both = zip(sure(game, some), sure(game, known_by_gaps(game, wire, player, more)))
                self.assertTrue(all(item is None or item == other for item, other in both))
        self.assertGreater(unsure, 40)

    def test_rows_that_are_none(self):
        arguments = (DIE, KEEN, 0)
        for value in ODD_VALUES + MIXED + (list(GAP), (), ((3, None), [], (2, 1)), ((3, None), 0), ((True, None),)):
            if not isinstance(value, tuple) or value == () or any(item is not None for item in value):
                self.assertEqual(known_by_gaps(*arguments, value), (), value)
            row = ((3, None), None, value)
            if value is not None:
                self.assertEqual(known_by_gaps(*arguments, row), ())
        self.assertEqual(known_by_gaps(*arguments, (None,)), ((0,),))
        self.assertEqual(known_by_gaps(*arguments, ((3, None), (False, None))), ())
        self.assertEqual(known_by_gaps(*arguments, ((3, None), (0, None))), ((0,), (1,)))
        self.assertEqual(known_by_gaps(*arguments, (None, (0, None), (2, True))), ())
        self.assertEqual(known_by_gaps(*arguments, (None, (0, None, None))), ())
        self.assertEqual(known_by_gaps(*arguments, (None, ())), ())

    def test_more_ticks_than_the_game_has(self):
        over = (2, ((2, 0),), ((None, 1, ("same", ("cell", 0), ("is", 0)), ((0, ("is", 1)),), ()),), ((YES,),) * 2)
        self.assertEqual([known_by_gaps(over, ((), ()), 0, (None,) * many) for many in range(5)],
                         [(), ((0,),), ((1,),), (), ()])
        self.assertEqual([known_by_gaps(over, ((), ()), 0, ((),) * many) for many in range(4)],
                         [(), ((0,),), ((1,),), ()])

    def test_long_rows(self):
        things = Things(393)
        for name in ("cups", "door", "lamps"):
            game = known_game(name)
            play = Model(game).some_play(things.random, 1500)
            row = tuple(None if things.random.random() < 0.3 else letter
                        for letter in heard_by(game, plain_wire(game), 1, play))
            some = known_by_gaps(game, plain_wire(game), 1, row)
            self.assertIn(Model(game).through(play)[-1], some)


class Enough(unittest.TestCase):
    def test_all_lots_of_open_numbers(self):
        kinds = set()
        for gapped in some_gapped(394, 150):
            if len(gapped.gaps) > 3 or len(gapped.plays) > 600:
                continue
            for numbers in lots(gapped.gaps):
                full = asked_enough(*gapped.arguments, numbers)
                paper = gap_paper(*gapped.arguments, numbers)
                kinds.add(full is None)
                self.assertEqual(full is None, gapped.enough(numbers))
                if full is None:
                    self.assertIsNone(gap_paper_error(*gapped.arguments, numbers, paper))
                    if len(gapped.plays) < 200:
                        self.assertEqual(paper, gapped.layers(numbers))
                    continue
                self.assertIsNone(paper)
                self.assertIn(full, gapped.full)
                self.assertTrue(gapped.is_unlike(numbers, full))
                self.assertIsNone(full_error(*gapped.arguments, numbers, full))
        self.assertEqual(kinds, {True, False})

    def test_fewest_of_them(self):
        sizes = set()
        for gapped in some_gapped(395, 200):
            if len(gapped.gaps) > 3 or len(gapped.plays) > 800:
                continue
            least = next(len(numbers) for numbers in lots(gapped.gaps) if gapped.enough(numbers))
            numbers = least_asked(*gapped.arguments)
            self.assertEqual(len(numbers), least)
            self.assertIsNone(asked_enough(*gapped.arguments, numbers))
            sizes.add((len(gapped.gaps), least))
        self.assertTrue({(0, 0), (1, 0), (1, 1), (2, 1), (2, 2)} <= sizes, sizes)

    def test_judges_of_full_rows(self):
        words = set()
        things = Things(396)
        for gapped in some_gapped(397, 60, 3):
            letters = sorted({letter for full in gapped.full for letter in full}, key=repr)[:3]
            values = list(itertools.product(letters + [(9,)], repeat=len(gapped.row)))
            values = things.random.sample(values, min(len(values), 25)) + gapped.full[:10]
            for numbers in lots(gapped.gaps)[:6]:
                for value in values:
                    wrong = [k for k, letter in enumerate(gapped.row) if letter is not None and letter != value[k]]
                    if wrong:
                        wanted = ("letter", wrong[0])
                    elif value not in gapped.full:
                        wanted = "heard"
                    else:
                        wanted = None if gapped.is_unlike(numbers, value) else "alike"
                    self.assertEqual(full_error(*gapped.arguments, numbers, value), wanted)
                    words.add(wanted if wanted is None or isinstance(wanted, str) else wanted[0])
        self.assertEqual(words, {None, "letter", "heard", "alike"})

    def test_values_of_any_kind(self):
        arguments = (DIE, KEEN, 0, TWO, (1,))
        full = ((3, None), (0, None), (0, None), (2, 1))
        self.assertIsNone(full_error(*arguments, full))
        for value in ODD_VALUES + MIXED + (full[:3], full + full[:1], list(full)):
            if not isinstance(value, tuple) or len(value) != 4:
                self.assertEqual(full_error(*arguments, value), "form")
            for k in range(4):
                wanted = ("letter", k) if k in (0, 3) else "heard"
                self.assertEqual(full_error(*arguments, full[:k] + (value,) + full[k + 1:]), wanted, value)
        for bad in ((2, True), [2, 1], (2,), (2, 1, None)):
            self.assertEqual(full_error(*arguments, full[:3] + (bad,)), ("letter", 3))
        for bad in ((False, None), (0,), None, [0, None]):
            self.assertEqual(full_error(*arguments, full[:1] + (bad,) + full[2:]), "heard")

    def test_what_does_not_fit(self):
        calls = (lambda row, numbers: asked_enough(DIE, KEEN, 0, row, numbers),
                 lambda row, numbers: full_error(DIE, KEEN, 0, row, numbers, ()),
                 lambda row, numbers: gap_paper(DIE, KEEN, 0, row, numbers),
                 lambda row, numbers: gap_paper_error(DIE, KEEN, 0, row, numbers, ()))
        for numbers in ODD_VALUES + MIXED + ((0,), (3,), (2, 1), (1, 1), (4,), (-1,), (True,), [1], (1, None), ("1",), 1, None):
            if numbers == () and isinstance(numbers, tuple):
                continue
            for call in calls:
                with self.assertRaises(Unfit, msg=numbers) as caught:
                    call(TWO, numbers)
                self.assertEqual(vars(caught.exception), {})
        for row in ODD_VALUES + MIXED + (((5,),), (), ((3, None), (7, None)), (None, (2, 1), (True, None)), list(GAP)):
            if isinstance(row, tuple) and row and all(item is None for item in row):
                continue
            for call in calls + (lambda row, _: least_asked(DIE, KEEN, 0, row),):
                for numbers in ((), (0,), None):
                    with self.assertRaises(Unfit):
                        call(row, numbers)
        # The beginning's number may be open, and asked for.
        self.assertIsNone(asked_enough(DIE, KEEN, 0, (None, (0, None)), (0,)))
        self.assertEqual(least_asked(DIE, KEEN, 0, (None,)), ())

    def test_eight_open_numbers_and_nine(self):
        row = ((3, None),) + (None,) * 8
        self.assertEqual(least_asked(DIE, KEEN, 0, row + ((0, None),)), ())
        self.assertEqual(least_asked(DIE, KEEN, 0, row[:8] + ((2, 1),)), (1, 2, 3, 4, 5, 6, 7))
        for more in (row + (None,), (None,) * 9, row + (None, (0, None)), (None,) * 30):
            too_many(self, lambda: least_asked(DIE, KEEN, 0, more), 8)
        with self.assertRaises(Unfit):
            least_asked(DIE, KEEN, 0, (None,) * 9 + ((9, 9),))
        self.assertIsNone(asked_enough(DIE, KEEN, 0, row + (None,), tuple(range(1, 10))))

    def test_too_many_pairs(self):
        raised = set()
        wire = (((YES, ("draw",)),), ())
        for last, many in ((6, 5), (9, 9), (35, 14)):
            game = hidden_chain(last)
            row = (None,) * many
            knowing = Knowing(game, wire, (0,))
            for numbers in ((), tuple(range(many)), tuple(range(0, many, 2))):
                pairs, most = {(knowing.alone(), knowing.alone())}, 1
                for k in range(1, many):
                    pairs = {(knowing.after(some, letters) if k in numbers else knowing.all_after(some),
                              knowing.after(whole, letters)) for some, whole in pairs for letters in knowing.next_heard(whole)}
                    most = max(most, len(pairs))
                raised.add(most > 3000)
                if most <= 3000:
                    full = asked_enough(game, wire, 0, row, numbers)
                    self.assertEqual(full is None, all(sure_of(some) == sure_of(whole) for some, whole in pairs))
        self.assertEqual(raised, {False})

    def test_too_many(self):
        # Whoever hears all hears so many rows that lead to unlike states.
        game = (2, ((6, 0),) * 5, tuple((None, 4, YES, ((c, ("sum", ("cell", c), ("draw",))),), ()) for c in range(5)),
                ((YES,) * 5,) * 2)
        row = ((0,) * 5, None, None, None, None, None)
        for call in (asked_enough, gap_paper):
            too_many(self, lambda: call(game, bare_wire(game), 0, row, ()))
            too_many(self, lambda: call(game, bare_wire(game), 0, row, (1, 2, 3, 4, 5)))
        too_many(self, lambda: gap_paper_error(game, bare_wire(game), 0, row, (), None))
        too_many(self, lambda: least_asked(game, bare_wire(game), 0, row))
        self.assertEqual(full_error(game, bare_wire(game), 0, row, (), None), "form")
        self.assertIsNone(asked_enough(game, silent_wire(game), 0, ((),) + row[1:], ()))
        self.assertEqual(len(gap_paper(game, bare_wire(game), 0, row[:3], (1, 2))), 3)

    def test_just_3000_pairs_and_one_more(self):
        # Behind the tick at which all is told there are as many pairs as states that can stand there.
        sizes = (5, 5, 5, 6, 4)
        draws = tuple((None, 1, YES, ((c, ("sum", ("cell", c), ("is", 1))),), ()) for c in range(5))
        wait = ((None, 1, YES, (), ()),)
        game = (2, tuple((size, 0) for size in sizes), draws + wait, ((YES,) * 5,) * 2)
        far = sum(size - 1 for size in sizes)
        row = ((0,) * 5,) + (None,) * far
        self.assertIsNotNone(asked_enough(game, bare_wire(game), 0, row, ()))
        more = (2, game[1] + ((2, 0),), draws + wait, ((YES,) * 6,) * 2)
        at_last = ("both", ("both", *[("same", ("cell", c), ("is", sizes[c] - 1)) for c in (0, 1)]),
                   ("both", ("same", ("cell", 2), ("is", 4)),
                    ("both", *[("same", ("cell", c), ("is", sizes[c] - 1)) for c in (3, 4)])))
        more = more[:2] + (more[2] + ((None, 1, at_last, ((5, ("is", 1)),), ()),),) + more[3:]
        row = ((0,) * 6,) + (None,) * (far + 1)
        with self.assertRaises(TooMany):
            asked_enough(more, bare_wire(more), 0, row, ())
        self.assertIsNotNone(asked_enough(more, bare_wire(more), 0, row[:-1], ()))


class Papers(unittest.TestCase):
    def test_papers_with_faults(self):
        words = set()
        things = Things(401)
        for gapped in some_gapped(402, 80):
            every = sorted(gapped.all_states())
            if len(gapped.plays) > 300:
                continue
            for numbers in lots(gapped.gaps)[:5]:
                layers = gapped.layers(numbers)
                values = [layers, layers[::-1]]
                for k, layer in enumerate(layers):
                    some = as_set(things.random.sample(every, things.random.randint(1, 2)))
                    for other in (layer[1:], (), tuple(sorted({*layer, (some, some)})), tuple(sorted({*layer, (some, some[:1])}))):
                        values.append(layers[:k] + (other,) + layers[k + 1:])
                        values.append(layers[:k] + (other,) + layers[k:][:-1])
                for value in values:
                    wrong = [k for k, layer in enumerate(value) if layer != layers[k]]
                    unlike = any(sure_of(one) != sure_of(other) for one, other in layers[-1])
                    wanted = ("pairs", wrong[0]) if wrong else "sure" if unlike else None
                    self.assertEqual(gap_paper_error(*gapped.arguments, numbers, value), wanted)
                    words.add(wanted if wanted is None or isinstance(wanted, str) else wanted[0])
        self.assertEqual(words, {None, "pairs", "sure"})

    def test_values_without_form(self):
        paper = gap_paper(DIE, KEEN, 0, GAP, (1,))
        pair = paper[1][1]
        bad = [None, (), (pair[0],), pair + ((),), list(pair), ((), pair[1]), (pair[0], ()), (pair[0], None), (list(pair[0]), pair[1]),
               (pair[0][::-1], pair[1]), (pair[0] + pair[0][-1:], pair[1]), (pair[0], ((3,),)), (((True,),), pair[1]),
               (pair[0], ((0, 0),)), (pair[0], (0,)), 0, "ab"]
        for k, layer in enumerate(paper):
            for item in bad:
                value = paper[:k] + (layer[:1] + (item,) + layer[1:],) + paper[k + 1:]
                self.assertEqual(gap_paper_error(DIE, KEEN, 0, GAP, (1,), value), "form", item)
            for other in (None, list(layer), layer[::-1] + layer[:1], layer + layer[-1:], 0, "abc", {}):
                value = paper[:k] + (other,) + paper[k + 1:]
                self.assertEqual(gap_paper_error(DIE, KEEN, 0, GAP, (1,), value), "form")
        for value in (list(paper), paper[:2], paper + ((),), ()) + ODD_VALUES + MIXED:
            wanted = ("pairs", 0) if value == ((), (), ()) and isinstance(value, tuple) else "form"
            if not (isinstance(value, tuple) and len(value) == 3 and all(item == () for item in value)):
                self.assertEqual(gap_paper_error(DIE, KEEN, 0, GAP, (1,), value), "form", value)
        self.assertEqual(gap_paper_error(DIE, KEEN, 0, GAP, (1,), ((), (), ())), ("pairs", 0))
        self.assertEqual(gap_paper_error(DIE, KEEN, 0, GAP, (), paper), ("pairs", 1))


if __name__ == "__main__":
    unittest.main()

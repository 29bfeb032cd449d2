"""Told rows and who finds them, and lies of one player, against all plays and all lies of few ticks."""

import itertools
import unittest

from knownplay.errors import Unfit
from knownplay.knowngames import known_game
from knownplay.knownwires import bare_wire, plain_wire, silent_wire
from knownplay.lies import finders, found_at, good_error, honest, honest_error, lie_error, lie_for_good, lie_lasts
from knownplay.lies import lie_paper, lie_paper_error, longest_lie, told_error
from knownplay.plays import play_error
from knownplay.wires import heard_by
from tests.knowing import LIMIT, MIXED, Knowing, as_set, counting, some_knowing, too_many
from tests.model import Model
from tests.test_joiners import hidden_chain
from tests.things import ODD_VALUES, YES, Things

DRAW, STAGE, HIDDEN = ("draw",), ("cell", 3), ("not", YES)
ODD = ("either", ("same", DRAW, ("is", 1)), ("same", DRAW, ("is", 2)))
BITS = ((0, DRAW), (1, ("choose", ("below", DRAW, ("is", 2)), ("is", 0), ("is", 1))),
        (2, ("choose", ODD, ("is", 1), ("is", 0))), (3, ("is", 1)))
LAY, GO = ((None, 4, ("same", STAGE, ("is", 0)), BITS, ()),
           (None, 1, ("same", STAGE, ("is", 1)), ((3, ("is", 2)),), ()))
PARITY = (3, ((2, 0), (2, 0), (2, 0), (3, 0)), (LAY, GO), ((YES, HIDDEN, HIDDEN, YES), (HIDDEN, YES, HIDDEN, YES),
                                                           (HIDDEN, HIDDEN, YES, YES)))
AT_TWO = ("same", STAGE, ("is", 2))
EARLY = (((YES, ("cell", 0)),), ((YES, ("cell", 1)),), ((YES, ("cell", 2)),))
LATE = (((YES, ("cell", 0)), (AT_TWO, ("cell", 1))), ((AT_TWO, ("cell", 1)),), ((AT_TWO, ("cell", 2)),))
SHOWN = (((YES, ("cell", 0)),), ((AT_TWO, ("cell", 0)),), ())
PAIR = (((YES, ("cell", 0)),), ((YES, ("cell", 1)),), ())
NO_SIGHT = (((HIDDEN,) * 3), ((HIDDEN,) * 3))


def staged(*deeds):
    """A game of two bits and a stage from 0 to 5, of the server's own deeds (stage, effects on bits, next stage)."""
    found = []
    for stage, cells, behind in deeds:
        effects = tuple((c, DRAW) for c in cells) + ((2, ("is", behind)),)
        found.append((None, 2 if cells else 1, ("same", ("cell", 2), ("is", stage)), effects, ()))
    return (2, ((2, 0), (2, 0), (6, 0)), tuple(found), NO_SIGHT)


def at_stage(stage, cell):
    """The entry that tells a bit at a stage alone."""
    return (("same", ("cell", 2), ("is", stage)), ("cell", cell))


OWN_BITS = ((YES, ("cell", 0)), (YES, ("cell", 1)))
# A bit that is told anew at once, and one laid later that is told to the other player three ticks later.
SLOWLY = staged((0, (0,), 1), (1, (1,), 2), (2, (), 3), (3, (), 4), (4, (), 5))
SLOW_WIRE = (OWN_BITS, (at_stage(2, 0), at_stage(5, 1)))
# The first bit is laid at once, and told two ticks later.
LATER = staged((0, (0,), 1), (1, (), 2), (2, (), 3), (3, (), 4))
LATER_WIRE = (OWN_BITS, (at_stage(3, 0),))
# The game ends a tick behind a bit, or else goes on in a ring of three; and the other way about, with a ring of one.
END_SOON = staged((0, (0,), 1), (0, (0,), 2), (2, (), 3), (3, (), 0))
RING_SOON = staged((0, (0,), 0), (0, (0,), 2), (2, (), 3), (3, (), 4))
BITS_AND_STAGE = OWN_BITS + ((YES, ("cell", 2)),)
STAGED = ((SLOWLY, SLOW_WIRE), (LATER, LATER_WIRE), (END_SOON, (BITS_AND_STAGE, ())), (RING_SOON, (BITS_AND_STAGE, ())),
          (END_SOON, (BITS_AND_STAGE, (at_stage(1, 0),))), (RING_SOON, (OWN_BITS, ())))
TOSS = (2, ((2, 0),), ((None, 2, YES, ((0, DRAW),), ()),), ((YES,), (HIDDEN,)))
MUTE = (((YES, ("cell", 0)),), ())


def everybody(game, wire):
    """What all players together hear."""
    return Knowing(game, wire, range(game[0]))


def fitting_plays(whole, told):
    """The plays that fit told rows, found among all of as many ticks; None if there are too many plays."""
    ticks = max([len(row) for row in told if row is not None], default=1) - 1
    plays = whole.plays_heard(ticks, 6000)
    if not plays and ticks and whole.plays_heard(ticks - 1, 6000) == []:
        return None
    return [play for play, rows, _ in plays
            if all(row is None or repr(row) == repr(tuple(letters[p] for letters in rows[:len(row)]))
                   for p, row in enumerate(told))]


def some_told(seed, many):
    """Triples of what all hear of a tiny game, told rows of it, and the plays that fit."""
    things = Things(seed)
    found = []
    for knowing in some_knowing(seed, many):
        whole = everybody(knowing.game, knowing.wire)
        for _ in range(8):
            plays = whole.plays_heard(things.random.randint(0, 3))
            if not plays:
                continue
            rows = things.random.choice(plays)[1], things.random.choice(plays)[1]
            told = []
            for p in range(knowing.game[0]):
                row = tuple(letters[p] for letters in things.random.choice(rows))
                kind = things.random.random()
                if kind < 0.15:
                    row = None
                elif kind < 0.35:
                    row = row[:things.random.randint(1, len(row))]
                elif kind < 0.45:
                    k = things.random.randrange(len(row))
                    other = things.random.choice([None, 0, (9,), row[0], list(row[k]), row[k] + (0,), row[-1]])
                    row = row[:k] + (other,) + row[k + 1:]
                told.append(row)
            fitting = fitting_plays(whole, tuple(told))
            if fitting is not None:
                found.append((whole, tuple(told), fitting))
    return found


def cut(told, many):
    """Told rows, each cut to so many items."""
    return tuple(None if row is None else row[:many] for row in told)


class Told(unittest.TestCase):
    def test_told_rows(self):
        for value in ((None,) * 3, (((),),) * 3, (((0,), None), ((True,),), ([],)), ((0, 1), None, ({},))):
            self.assertIsNone(told_error(PARITY, value))
        for value in ODD_VALUES + MIXED + ((None,) * 2, (None,) * 4, [None] * 3, "abc"):
            if not isinstance(value, tuple) or len(value) != 3:
                self.assertEqual(told_error(PARITY, value), "form", value)
            row = value if isinstance(value, tuple) and value else None
            for p in range(3):
                rows = [((0,),)] * 3
                rows[p] = value
                wanted = None if row is not None or value is None else ("row", p)
                self.assertEqual(told_error(PARITY, tuple(rows)), wanted, value)
                if wanted is not None and p < 2:
                    rows[2] = ()
                    self.assertEqual(told_error(PARITY, tuple(rows)), wanted)

    def test_honest_told_rows(self):
        kinds = {True: 0, False: 0}
        for whole, told, fitting in some_told(341, 150):
            game, wire = whole.game, whole.wire
            self.assertIsNone(told_error(game, told))
            play = honest(game, wire, told)
            kinds[bool(fitting)] += 1
            if fitting:
                self.assertIn(play, fitting)
                self.assertIsNone(honest_error(game, wire, told, play))
            else:
                self.assertIsNone(play)
        self.assertGreater(min(kinds.values()), 200)

    def test_where_they_are_found(self):
        places = set()
        for whole, told, fitting in some_told(342, 100):
            wanted = None
            if not fitting:
                wanted = next(k for k in itertools.count() if fitting_plays(whole, cut(told, k + 1)) == [])
            self.assertEqual(found_at(whole.game, whole.wire, told), wanted)
            places.add(wanted)
        self.assertTrue({None, 0, 1, 2, 3} <= places)

    def test_who_finds_them(self):
        sizes = set()
        for whole, told, fitting in some_told(343, 100):
            players = range(whole.game[0])
            lots = []
            for many in range(1, len(players) + 1):
                for lot in itertools.combinations(players, many):
                    alone = tuple(row if p in lot else None for p, row in enumerate(told))
                    if not fitting_plays(whole, alone) and not any(set(one) <= set(lot) for one in lots):
                        lots.append(lot)
            self.assertEqual(finders(whole.game, whole.wire, told), tuple(sorted(lots)))
            self.assertEqual(bool(lots), not fitting)
            sizes |= {len(lot) for lot in lots}
        self.assertTrue({1, 2} <= sizes)
        told = (((0,), (1,)),) * 3
        self.assertEqual(finders(PARITY, EARLY, told), ((0, 1, 2),))

    def test_all_plays_against_told_rows(self):
        words = set()
        for whole, told, _ in some_told(344, 40):
            game, wire = whole.game, whole.wire
            ticks = max([len(row) for row in told if row is not None], default=1) - 1
            for play in [play for many in range(4) for play, _, _ in whole.plays_heard(many)[:12]]:
                wanted = None
                if len(play) != ticks:
                    wanted = "length"
                else:
                    rows = [heard_by(game, wire, p, play) for p in range(game[0])]
                    wrong = [(t, p) for p, row in enumerate(told) for t, item in enumerate(row or ())
                             if repr(item) != repr(rows[p][t])]
                    wanted = ("told",) + min(wrong) if wrong else None
                self.assertEqual(honest_error(game, wire, told, play), wanted)
                words.add(wanted if wanted is None or isinstance(wanted, str) else wanted[0])
        self.assertEqual(words, {None, "length", "told"})
        for value in ODD_VALUES + MIXED:
            if play_error(PARITY, value) is not None:
                self.assertEqual(honest_error(PARITY, EARLY, (None,) * 3, value), "form")

    def test_true_is_not_one(self):
        right = (((0,), (1,)), ((0,), (1,)), ((0,), (0,)))
        self.assertEqual(honest(PARITY, EARLY, right), ((0, 3),))
        for p, row in enumerate(right):
            for k, item in enumerate(row):
                for other in ((bool(item[0]),), [item[0]], item[0], item + (None,), (), None, (str(item[0]),)):
                    told = right[:p] + (row[:k] + (other,) + row[k + 1:],) + right[p + 1:]
                    self.assertIsNone(honest(PARITY, EARLY, told))
                    self.assertEqual(found_at(PARITY, EARLY, told), k)
                    self.assertEqual(finders(PARITY, EARLY, told), ((p,),))
                    self.assertEqual(honest_error(PARITY, EARLY, told, ((0, 3),)), ("told", k, p))

    def test_values_of_any_kind_in_rows(self):
        for value in ODD_VALUES + MIXED:
            if value in ((0,), (1,)) and isinstance(value, tuple) and type(value[0]) is int:
                continue
            told = (None, ((0,), value), None)
            self.assertEqual((honest(PARITY, EARLY, told), found_at(PARITY, EARLY, told)), (None, 1))
            self.assertEqual(finders(PARITY, EARLY, told), ((1,),))

    def test_nothing_told_and_silent_players(self):
        self.assertEqual((honest(PARITY, EARLY, (None,) * 3), found_at(PARITY, EARLY, (None,) * 3)), ((), None))
        self.assertEqual(honest_error(PARITY, EARLY, (None,) * 3, ()), None)
        # More ticks than the game has cannot be.
        long = (((0,),) * 4, None, None)
        self.assertEqual((found_at(PARITY, EARLY, long), finders(PARITY, EARLY, long)), (3, ((0,),)))

    def test_cut_rows_of_a_long_play_are_honest(self):
        things = Things(345)
        for name in ("cups", "lamps", "door"):
            game = known_game(name)
            play = Model(game).some_play(things.random, 1200)
            rows = [heard_by(game, plain_wire(game), p, play) for p in range(game[0])]
            told = tuple(row[:things.random.randint(1, 1201)] for row in rows)
            fit = honest(game, plain_wire(game), told)
            self.assertIsNone(honest_error(game, plain_wire(game), told, fit))
            self.assertEqual(finders(game, plain_wire(game), told), ())
            self.assertIsNone(found_at(game, plain_wire(game), told))

    def test_too_many(self):
        game, more = counting((5, 5, 5, 6, 4)), counting((5, 5, 5, 6, 4), (4, 4, 4, 5, 3))
        right = (((0,) * 5,), ((0,) * 5,))
        self.assertEqual(honest(game, bare_wire(game), right), ())
        self.assertEqual((found_at(game, bare_wire(game), right), finders(game, bare_wire(game), right)), (None, ()))
        for told in ((None, None), (((0,) * 6,), None), (((9,) * 6,), None)):
            for call in (honest, found_at, finders):
                too_many(self, lambda: call(more, bare_wire(more), told))
            self.assertIn(honest_error(more, bare_wire(more), told, ()), (None, ("told", 0, 0)))


class Liar(Knowing):
    """What one player can tell, while all others tell what they hear; nodes are (lying, state, set)."""

    def __init__(self, game, wire, player):
        super().__init__(game, wire, range(game[0]))
        self.player = player

    def rest(self, letters):
        """What all others hear."""
        return letters[:self.player] + letters[self.player + 1:]

    def set_behind(self, some, item, letters):
        """The set behind a tick of which player tells item, and all others what they hear."""
        return self.after(some, letters[:self.player] + (item,) + letters[self.player + 1:])

    def steps(self, node):
        """The triples of a move, an item told and the node behind."""
        lying, state, some = node
        found = []
        for move, letters, behind in self.moves_heard(state):
            for item in {told[self.player] for told in self.next_heard(some) if self.rest(told) == self.rest(letters)}:
                then = (lying or item != letters[self.player], behind, self.set_behind(some, item, letters))
                found.append((move, item, then))
        return found

    def nodes(self, most=400):
        """All nodes; None if there are more than most."""
        todo = [(False, self.first, self.alone())]
        met = set(todo)
        for node in todo:
            for _, _, behind in self.steps(node):
                if behind not in met:
                    met.add(behind)
                    todo.append(behind)
            if len(todo) > most:
                return None
        return todo

    def least_for_good(self, most):
        """The fewest ticks, at most most, of a lie for good; None if there is none."""
        layer = [((False, self.first, self.alone()),)]
        for ticks in range(1, most + 1):
            layer = [path + (behind,) for path in layer for _, _, behind in self.steps(path[-1])]
            layer = list({(frozenset(path[:-1]), path[-1]): path for path in layer}.values())
            for path in layer:
                lying, state, some = path[-1]
                if lying and (not self.moves_heard(state) or any((state, some) == node[1:] for node in path[:-1])):
                    return ticks
            if len(layer) > 3000:
                return None
        return None

    def lasting(self):
        """A dict of how many ticks a lie can last from each of its nodes on; None if some lie is for good."""
        found = {node: 1 for node in self.nodes() if node[0]}
        if any(not self.moves_heard(node[1]) for node in found):
            return None
        for _ in range(len(found) + 1):
            new = {node: 1 + max([found[behind] for _, _, behind in self.steps(node)], default=0) for node in found}
            if new == found:
                return found
            found = new
        return None


def some_liars(seed, many):
    """So many Liars of tiny games, and those of the document's examples."""
    things = Things(seed)
    found = [Liar(PARITY, wire, p) for wire in (EARLY, LATE, SHOWN, PAIR) for p in range(3)]
    found += [Liar(TOSS, MUTE, p) for p in range(2)]
    found += [Liar(game, wire, p) for game, wire in STAGED for p in range(2)]
    for knowing in some_knowing(seed, many):
        liar = Liar(knowing.game, knowing.wire, things.random.randrange(knowing.game[0]))
        if liar.nodes(150) is not None:
            found.append(liar)
    return found


class Lies(unittest.TestCase):
    def test_for_good_as_short_as_can_be(self):
        kinds = set()
        for liar in some_liars(351, 120):
            arguments = (liar.game, liar.wire, liar.player)
            found = lie_for_good(*arguments)
            least = liar.least_for_good(4)
            kinds.add((None if found is None else len(found[0]), found is None or found[2] is None))
            if found is None:
                self.assertIsNone(least)
                self.assertIsNotNone(liar.lasting())
                continue
            self.assertIsNone(liar.lasting())
            self.assertIsNone(good_error(*arguments, found))
            self.assertTrue(least == len(found[0]) or (least is None and len(found[0]) > 2))
        self.assertTrue({(None, True), (1, False), (2, True), (2, False)} <= kinds, kinds)

    def test_how_long_they_last(self):
        lengths = set()
        for liar in some_liars(352, 150):
            arguments = (liar.game, liar.wire, liar.player)
            lasting = liar.lasting()
            if lasting is None:
                for call in (lie_lasts, longest_lie):
                    with self.assertRaises(Unfit) as caught:
                        call(*arguments)
                    self.assertEqual(vars(caught.exception), {})
                self.assertIsNone(lie_paper(*arguments))
                continue
            most = max(lasting.values(), default=0)
            lengths.add(most)
            self.assertEqual(lie_lasts(*arguments), most)
            lie = longest_lie(*arguments)
            if most == 0:
                self.assertIsNone(lie)
            else:
                self.assertIsNone(lie_error(*arguments, most, lie))
                self.assertEqual(lie_error(*arguments, most + 1, lie), ("lasts", most))
                self.assertEqual(len(lie[0]), self.fewest_ticks(liar, lasting, most))
            paper = lie_paper(*arguments)
            self.assertIsNone(lie_paper_error(*arguments, paper))
            self.assertEqual((paper[0], good_error(*arguments, None)), (most, "form"))
        self.assertTrue({0, 1, 2, 3} <= lengths, lengths)

    def test_lies_that_last_some_ticks(self):
        for (game, wire), ticks, lasts in zip(STAGED[:2], (4, 2), (3, 2)):
            self.assertEqual(lie_lasts(game, wire, 0), lasts)
            play, row = longest_lie(game, wire, 0)
            self.assertEqual(len(play), ticks)
            self.assertIsNone(lie_error(game, wire, 0, lasts, (play, row)))

    def test_the_end_of_the_game_or_a_ring_whichever_is_nearer(self):
        for (game, wire), ticks, ends in zip(STAGED[2:5], (1, 2, 4), (True, False, None)):
            play, _, back = lie_for_good(game, wire, 0)
            # The last one may be brought to either in as many ticks.
            self.assertEqual((len(play), None if ends is None else back is None), (ticks, ends))

    def fewest_ticks(self, liar, lasting, most):
        """The fewest ticks of a lie that lasts most."""
        layer = {(False, liar.first, liar.alone())}
        for ticks in itertools.count(1):
            behind = {after for node in layer for _, _, after in liar.steps(node)}
            if any(node[0] and lasting[node] == most for node in behind):
                return ticks + most - 1
            layer = {node for node in behind if not node[0]}

    def test_round_and_round(self):
        rings = 0
        for liar in some_liars(353, 60):
            arguments = (liar.game, liar.wire, liar.player)
            found = lie_for_good(*arguments)
            if found is None or found[2] is None:
                continue
            rings += 1
            play, row, back = found
            heard = heard_by(*arguments, play)
            turn = next(k for k, item in enumerate(row) if item != heard[k])
            for many in (0, 1, 2, 40):
                longer, its_row = play + play[back:] * many, row + row[back + 1:] * many
                self.assertIsNone(good_error(*arguments, (longer, its_row, back)))
                lasts = len(its_row) - turn
                self.assertIsNone(lie_error(*arguments, lasts, (longer, its_row)))
                self.assertEqual(lie_error(*arguments, lasts + 1, (longer, its_row)), ("lasts", lasts))
                if many:
                    self.assertIsNone(good_error(*arguments, (longer, its_row, len(play))))
        self.assertGreater(rings, 15)

    def sets_by_plays(self, liar, play, row):
        """The sets behind a lie so far, and how many of them are not (); told by all plays."""
        told = tuple(row if p == liar.player else heard_by(liar.game, liar.wire, p, play) for p in range(liar.game[0]))
        return [as_set(liar.through(one)[-1] for one in fitting_plays(liar, cut(told, t + 1))) for t in range(len(row))]

    def test_judges_of_all_short_lies(self):
        words = set()
        things = Things(354)
        for liar in some_liars(355, 20):
            arguments = (liar.game, liar.wire, liar.player)
            plays = [play for ticks in range(3) for play, _, _ in liar.plays_heard(ticks)]
            for play in things.random.sample(plays, min(len(plays), 10)):
                heard, states = heard_by(*arguments, play), liar.through(play)
                items = sorted({letters[liar.player] for one in plays[:30] for letters in
                                [told[0] for told in [liar.next_heard((liar.through(one)[-1],))] if told]}, key=repr)[:2]
                for row in itertools.product(*[tuple({item: 1 for item in (letter, *items)}) for letter in heard]):
                    self.check_lie(liar, play, row, heard, states, words)
        self.assertEqual(words, {None, "true", "found", "end", "lasts"})

    def check_lie(self, liar, play, row, heard, states, words):
        """Checks what is told of one play and row."""
        arguments = (liar.game, liar.wire, liar.player)
        backs = [None] + list(range(len(play)))
        if row == heard:
            for back in backs:
                self.assertEqual(good_error(*arguments, (play, row, back)), "true")
            self.assertEqual(lie_error(*arguments, 1, (play, row)), "true")
            words.add("true")
            return
        sets = self.sets_by_plays(liar, play, row)
        turn = next(k for k, item in enumerate(row) if item != heard[k])
        lasts = sum(bool(some) for some in sets) - turn
        for number in (1, 2, 3):
            wanted = None if number == lasts else ("lasts", lasts)
            self.assertEqual(lie_error(*arguments, number, (play, row)), wanted)
            words.add(wanted and wanted[0])
        for back in backs:
            if () in sets:
                wanted = ("found", sets.index(()))
            elif back is None:
                wanted = "end" if liar.moves_heard(states[-1]) else None
            else:
                wanted = None if (states[back], sets[back]) == (states[-1], sets[-1]) else "end"
            self.assertEqual(good_error(*arguments, (play, row, back)), wanted)
            words.add(wanted[0] if isinstance(wanted, tuple) else wanted)

    def test_values_without_form(self):
        play, row = ((0, 0), (0, 1)), ((0,), (1,), (1,))
        for value in ODD_VALUES + MIXED + ((play,), (play, row), (play, row, None, 0), [play, row, None]):
            self.assertEqual(good_error(TOSS, MUTE, 0, value), "form")
        for back in (-1, 2, 10 ** 300, True, False, "0", (), (0,), [0], 0.5):
            self.assertEqual(good_error(TOSS, MUTE, 0, (play, row, back)), "form")
        for bad in (((0, 2),), ((0, True),), ((1, 0),), [(0, 0)], None, (None,), "ab", 0):
            for value in ((bad, row[:2], None), (bad, row, 0)):
                self.assertEqual(good_error(TOSS, MUTE, 0, value), "form")
            self.assertEqual(lie_error(TOSS, MUTE, 0, 1, (bad, row[:2])), "form")
        for bad in (row[:2], row + row[:1], list(row), None, "abc", (), {}):
            self.assertEqual(good_error(TOSS, MUTE, 0, (play, bad, 0)), "form")
            self.assertEqual(lie_error(TOSS, MUTE, 0, 1, (play, bad)), "form")
        for value in ODD_VALUES + MIXED:
            if not (isinstance(value, tuple) and len(value) == 2):
                self.assertEqual(lie_error(TOSS, MUTE, 0, 1, value), "form")
        self.assertEqual(lie_error(TOSS, MUTE, 0, 1, (play, row, None)), "form")
        self.assertEqual(lie_error(TOSS, MUTE, 0, 1, (play, row, row)), "form")
        # What is told may be any value: then it is another item than the letter, and found.
        for value in ODD_VALUES + MIXED:
            if repr(value) not in ("(0,)", "(1,)"):
                self.assertEqual(lie_error(TOSS, MUTE, 0, 1, (play, ((0,), (1,), value))), None)
                self.assertEqual(good_error(TOSS, MUTE, 0, (play, ((0,), (0,), value), 0)), ("found", 2))
                self.assertEqual(lie_error(TOSS, MUTE, 0, 1, (play, (value,) + row[1:])), ("lasts", 0))

    def test_too_many(self):
        more = counting((5, 5, 5, 6, 4), (4, 4, 4, 5, 3))
        game = counting((5, 5, 5, 6, 4))
        # If all hear all there are no lies that last, and as many truths as states.
        self.assertEqual((lie_lasts(game, bare_wire(game), 0), longest_lie(game, bare_wire(game), 0)), (0, None))
        self.assertEqual(len(lie_paper(game, bare_wire(game), 0)[1]), LIMIT)
        for call in (lie_for_good, lie_lasts, longest_lie, lie_paper):
            too_many(self, lambda: call(more, bare_wire(more), 0))
        # One of two hears what the other one does not: it may tell anything, and each truth is a lie once more.
        told = (bare_wire(game)[0], ())
        for call in (lie_for_good, lie_lasts, longest_lie, lie_paper):
            too_many(self, lambda: call(game, told, 0))
        for judge in (good_error, lie_paper_error):
            self.assertEqual(judge(more, bare_wire(more), 0, None), "form")
        self.assertEqual(lie_error(more, bare_wire(more), 0, 1, ((), (None,))), ("lasts", 0))
        self.assertEqual(honest_error(more, bare_wire(more), (None, None), None), "form")

    def test_many_nodes_of_few_states(self):
        raised = set()
        for last in (2, 5, 9, 14, 20):
            game = hidden_chain(last)
            liar = Liar(game, ((((YES, ("cell", 0)), (YES, ("cell", 1)))), ()), 0)
            nodes = liar.nodes(LIMIT)
            raised.add(nodes is None)
            if nodes is None:
                for call in (lie_for_good, lie_lasts, longest_lie, lie_paper):
                    too_many(self, lambda: call(game, liar.wire, 0))
            else:
                self.assertIsNone(good_error(game, liar.wire, 0, lie_for_good(game, liar.wire, 0)))
        self.assertIn(False, raised)


class Papers(unittest.TestCase):
    def fault(self, liar, paper):
        """What is told of a paper that has its form."""
        _, truths, lies = paper
        ranks = {item[:2]: item[2] for item in lies}
        if (liar.first, liar.alone()) not in truths:
            return "begun"
        for lying, lot in ((False, truths), (True, lies)):
            for k, item in enumerate(lot):
                state, some = item[:2]
                moves = liar.moves_heard(state)
                if lying and not moves:
                    return ("lie", k)
                for _, letters, behind in moves:
                    items = {told[liar.player] for told in liar.next_heard(some)} | {letters[liar.player]}
                    for one in items:
                        then = (behind, liar.set_behind(some, one, letters))
                        if not lying and one == letters[liar.player]:
                            right = then in truths
                        else:
                            right = then[1] == () or then in ranks and (not lying or ranks[then] < item[2])
                        if not right:
                            return ("lie" if lying else "truth", k)
        return None

    def test_papers_with_faults(self):
        things = Things(361)
        words = set()
        for liar in some_liars(362, 120):
            arguments = (liar.game, liar.wire, liar.player)
            nodes = liar.nodes()
            lasting = liar.lasting()
            truths = tuple(sorted(node[1:] for node in nodes if not node[0]))
            lies = tuple(sorted(node[1:] + ((lasting or {}).get(node, 1) - 1,) for node in nodes if node[0]))
            most = max([item[2] + 1 for item in lies], default=0)
            every = sorted(liar.all_states())
            values = [(most, truths, lies), (most + 3, truths, lies), (most, (), ()), (most, (), lies), (most, truths, ())]
            values += [(most, truths[:k] + truths[k + 1:], lies) for k in range(min(4, len(truths)))]
            values += [(most, truths, lies[:k] + lies[k + 1:]) for k in range(min(4, len(lies)))]
            for k in range(min(4, len(lies))):
                for rank in range(most + 2):
                    values.append((most + 2, truths, lies[:k] + (lies[k][:2] + (rank,),) + lies[k + 1:]))
            for _ in range(6):
                pair = (things.random.choice(every), as_set(things.random.sample(every, things.random.randint(1, 2))))
                values.append((most, tuple(sorted({*truths, pair})), lies))
                if pair not in {item[:2] for item in lies}:
                    values.append((most + 1, truths, tuple(sorted({*lies, (*pair, things.random.randint(0, most))}))))
            for value in values:
                wanted = self.fault(liar, value)
                self.assertEqual(lie_paper_error(*arguments, value), wanted)
                words.add(wanted if wanted is None or isinstance(wanted, str) else wanted[0])
                if wanted is None:
                    self.assertLessEqual(lie_lasts(*arguments), value[0])
        self.assertEqual(words, {None, "begun", "truth", "lie"})

    def test_values_without_form(self):
        number, truths, lies = lie_paper(PARITY, SHOWN, 0)
        state, some, rank = lies[0]
        bad_sets = [(), None, list(some), some[::-1] + some[:1], some + some[-1:], ((0, 0, 0, 3),), ((0, 0, 0),),
                    ((0, 0, 0, True),), "ab", (0,)]
        bad_truths = [(state, one) for one in bad_sets] + [(None, some), ((0, 0, 0, 3), some), (state,), [state, some], (),
                                                           (state, some, 0), (state[:3], some), ((False,) + state[1:], some)]
        bad_lies = [(state, one, rank) for one in bad_sets] + [(None, some, rank), (state, some), [state, some, rank], (),
                                                               (state, some, rank, 0), ((0, 0, 0, 3), some, rank)]
        bad_lies += [(state, some, other) for other in (-1, number, True, False, None, "0", (0,))]
        values = [(number, truths[:k] + (item,) + truths[k:], lies) for k in (0, 3) for item in bad_truths]
        values += [(number, truths, lies[:k] + (item,) + lies[k + 1:]) for k in range(len(lies)) for item in bad_lies]
        values += [(number, truths[::-1], lies), (number, truths + truths[-1:], lies), (number, truths, lies[::-1])]
        values += [(number, truths, lies + lies[-1:]), (number + 2, truths, (lies[0], lies[0][:2] + (1,)) + lies[1:])]
        values += [(other, truths, lies) for other in (-1, 0, True, None, "1", (1,), number - 1)]
        values += [(number, list(truths), lies), (number, truths, list(lies)), (number, truths), (number, truths, lies, ()),
                   [number, truths, lies], (number, None, lies), (number, truths, None)]
        for value in values:
            self.assertEqual(lie_paper_error(PARITY, SHOWN, 0, value), "form", value)
        for value in ODD_VALUES + MIXED:
            wanted = "begun" if value == (0, (), ()) and isinstance(value, tuple) else "form"
            self.assertEqual(lie_paper_error(PARITY, SHOWN, 0, value), wanted)
        self.assertIsNone(lie_paper_error(PARITY, SHOWN, 0, (10 ** 300, truths, lies)))

    def test_if_all_others_hear_nothing(self):
        things = Things(363)
        for knowing in some_knowing(364, 30):
            rule = knowing.wire[0]
            wire = (rule,) + silent_wire(knowing.game)[1:]
            whole = Liar(knowing.game, wire, 0)
            plays = whole.plays_heard(3)
            for _ in range(5 if plays else 0):
                (play, row, _), other = things.random.choice(plays), things.random.choice(plays)[1]
                told = tuple(letters[0] for letters in other)
                if other != row:
                    turn = next(k for k in range(4) if other[k] != row[k])
                    self.assertIsNone(lie_error(knowing.game, wire, 0, 4 - turn, (play, told)))


if __name__ == "__main__":
    unittest.main()

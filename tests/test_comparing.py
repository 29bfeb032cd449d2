"""Comparing by circles, against all told rows of few ticks, and papers that nothing is found so by all alone."""

import itertools
import unittest

from knownplay.comparing import comparing, comparing_error, comparing_paper, comparing_paper_error
from knownplay.knownwires import bare_wire, silent_wire
from knownplay.lies import finders, honest, told_error
from knownplay.plays import states
from tests.knowing import LIMIT, MIXED, as_set, counting, some_knowing, too_many
from tests.test_joiners import hidden_chain
from tests.test_lies import EARLY, LATE, PAIR, PARITY, SHOWN, everybody
from tests.things import ODD_VALUES, YES, Things


class Circles:
    """All players and their circles, by lots of states."""

    def __init__(self, game, wire, many):
        self.whole = everybody(game, wire)
        self.game, self.wire, self.many = game, wire, many
        self.players = tuple(range(game[0]))
        self.circles = list(itertools.combinations(self.players, many))

    def gone_on(self, some, lot, telling):
        """The set behind a tick of which the players of a lot hear what they tell, if anything."""
        return as_set(behind for state in some for _, letters, behind in self.whole.moves_heard(state)
                      if all(telling[p] in (None, letters[p]) for p in lot))

    def begun(self):
        """The begun node."""
        alone = self.whole.alone()
        return (self.players, alone, tuple((circle, alone) for circle in self.circles))

    def letters(self):
        """For each player all letters that it can hear at some tick."""
        found = [set() for _ in self.players]
        for state in self.whole.all_states():
            for _, letters, _ in self.whole.moves_heard(state):
                for p, letter in enumerate(letters):
                    found[p].add(letter)
        return [sorted(some, key=repr) for some in found]

    def tellings(self, node):
        """All tellings from a node."""
        letters = self.letters()
        choices = [[None] + (letters[p] if p in node[0] else []) for p in self.players]
        return [telling for telling in itertools.product(*choices) if telling != (None,) * len(self.players)]

    def led(self, node, telling):
        """The node to which a telling leads; None if it leads nowhere."""
        speakers = tuple(p for p in self.players if telling[p] is not None)
        sets = tuple((circle, self.gone_on(some, circle, telling)) for circle, some in node[2]
                     if set(circle) & set(speakers))
        if any(some == () for _, some in sets):
            return None
        return (speakers, self.gone_on(node[1], speakers, telling), sets)

    def search(self, most=LIMIT):
        """The pair of all nodes, and of the fewest ticks of told rows that all find and no circle; None if there are none.

        None in the place of both if there are more nodes than most.
        """
        layer, met, least = [self.begun()], {self.begun()}, None
        for ticks in itertools.count(1):
            newer = []
            for node in layer:
                for telling in self.tellings(node):
                    behind = self.led(node, telling)
                    if behind is None:
                        continue
                    if behind[1] == ():
                        least = ticks if least is None else least
                    elif behind not in met:
                        met.add(behind)
                        newer.append(behind)
                        if len(met) > most:
                            return None
            if not newer:
                return (met, least)
            layer = newer


def some_circles(seed, many, most=40):
    """So many Circles of tiny games, with few nodes each, and what search tells of them."""
    found = [Circles(PARITY, wire, many) for wire in (EARLY, LATE, SHOWN, PAIR) for many in (1, 2)]
    for knowing in some_knowing(seed, many, 60):
        found += [Circles(knowing.game, knowing.wire, many) for many in range(1, knowing.game[0])]
    searched = [(circles, circles.search(LIMIT if circles.game == PARITY else most)) for circles in found]
    return [(circles, told) for circles, told in searched if told is not None]


class Comparing(unittest.TestCase):
    def test_as_few_ticks_as_can_be(self):
        kinds = set()
        for circles, (nodes, least) in some_circles(371, 40):
            arguments = (circles.game, circles.wire, circles.many)
            told, paper = comparing(*arguments), comparing_paper(*arguments)
            kinds.add((circles.game[0], circles.many, least))
            if least is None:
                self.assertIsNone(told)
                self.assertEqual(set(paper), nodes)
                self.assertIsNone(comparing_paper_error(*arguments, paper))
                continue
            self.assertIsNone(paper)
            self.assertIsNone(told_error(circles.game, told))
            self.assertNotIn(None, told)
            self.assertEqual(max(map(len, told)) - 1, least)
            self.assertIsNone(comparing_error(*arguments, told))
            self.assertIsNone(honest(circles.game, circles.wire, told))
            lots = finders(circles.game, circles.wire, told)
            self.assertTrue(lots and all(len(lot) > circles.many for lot in lots))
        for kind in ((2, 1, None), (2, 1, 1), (3, 1, None), (3, 1, 1), (3, 2, None), (3, 2, 1), (3, 2, 2)):
            self.assertIn(kind, kinds)

    def test_who_falls_silent(self):
        told = comparing(PARITY, LATE, 2)
        self.assertEqual((len(told[0]), len(told[1]), len(told[2])), (2, 3, 3))
        self.assertEqual(comparing_error(PARITY, LATE, 2, told), None)

    def test_four_players(self):
        # Each of four hears a bit, and the bits have an even sum: so each three may be right.
        draw, bit = ("draw",), ("same", ("cell", 4), ("is", 0))
        parts = [("is", 0), ("is", 1)]
        high = ("choose", ("below", draw, ("is", 2)), *parts)
        low = ("choose", ("either", ("same", draw, ("is", 0)), ("same", draw, ("is", 2))), *parts)
        total = ("sum", ("cell", 0), ("sum", ("cell", 1), ("cell", 2)))
        deeds = ((None, 4, bit, ((0, low), (1, high), (4, ("is", 1))), ()),
                 (None, 2, ("same", ("cell", 4), ("is", 1)), ((2, draw), (4, ("is", 2))), ()),
                 (None, 1, ("same", ("cell", 4), ("is", 2)), ((3, total), (4, ("is", 3))), ()))
        game = (4, ((2, 0),) * 4 + ((4, 0),), deeds, (((YES,) * 5),) * 4)
        wire = tuple(((("same", ("cell", 4), ("is", 3)), ("cell", p)),) for p in range(4))
        for many in (1, 2, 3):
            told = comparing(game, wire, many)
            self.assertEqual([len(row) for row in told], [4] * 4)
            self.assertIsNone(comparing_error(game, wire, many, told))
            self.assertEqual(sum(row[3][0] for row in told) % 2, 1)

    def test_all_short_told_rows(self):
        words = set()
        things = Things(372)
        for circles, _ in some_circles(373, 15):
            game, wire = circles.game, circles.wire
            first = circles.whole.first_letters()
            letters = circles.letters()
            rows = [[None] + [(first[p],) + rest for many in range(3) for rest in itertools.product(letters[p][:3], repeat=many)]
                    + [((9,),)] for p in circles.players]
            values = list(itertools.product(*rows))
            for told in things.random.sample(values, min(60, len(values))):
                found = finders(game, wire, told)
                lots = [circle for circle in circles.circles if any(set(lot) <= set(circle) for lot in found)]
                wanted = "honest" if not found else ("lot", lots[0]) if lots else None
                self.assertEqual(comparing_error(game, wire, circles.many, told), wanted)
                words.add(wanted if wanted is None or isinstance(wanted, str) else wanted[0])
        self.assertEqual(words, {None, "honest", "lot"})

    def test_values_without_form(self):
        for value in ODD_VALUES + MIXED + ((None, (), None), (((0,),),) * 2, [None] * 3, (((0,),), 0, None)):
            wanted = "form" if told_error(PARITY, value) is not None else "honest" if value == (None,) * 3 else ("lot", (0,))
            self.assertEqual(comparing_error(PARITY, EARLY, 1, value), wanted, value)
        self.assertEqual(comparing_error(PARITY, EARLY, 2, (None,) * 3), "honest")

    def test_too_many(self):
        # Two hear all: there is a node for each state and each of three lots of speakers.
        game, more = counting((5, 5, 5, 4, 2)), counting((5, 5, 5, 4, 2), (4, 4, 4, 3, 1))
        self.assertEqual(len(states(game)), 1000)
        self.assertIsNone(comparing_error(game, bare_wire(game), 1, comparing(game, bare_wire(game), 1)))
        self.assertIsNone(comparing_paper(game, bare_wire(game), 1))
        for call in (comparing, comparing_paper):
            # What is found at the first tick already plays no part.
            too_many(self, lambda: call(more, bare_wire(more), 1))
        self.assertEqual(comparing_error(more, bare_wire(more), 1, (None, None)), "honest")
        self.assertEqual(comparing_paper_error(more, bare_wire(more), 1, ()), "begun")

    def test_just_as_many_nodes_as_may_be(self):
        kinds = set()
        for last in (3, 5, 8, 11):
            game = hidden_chain(last)
            wire = (((YES, ("cell", 0)),), ((YES, ("cell", 1)),))
            found = Circles(game, wire, 1).search(LIMIT)
            kinds.add(found is None)
            if found is None:
                too_many(self, lambda: comparing(game, wire, 1))
                too_many(self, lambda: comparing_paper(game, wire, 1))
            elif found[1] is None:
                self.assertEqual(set(comparing_paper(game, wire, 1)), found[0])
            else:
                self.assertIsNone(comparing_error(game, wire, 1, comparing(game, wire, 1)))
        self.assertIn(False, kinds)


class Papers(unittest.TestCase):
    def fault(self, circles, paper):
        """What is told of a tuple of nodes that have their form."""
        if circles.begun() not in paper:
            return "begun"
        for k, node in enumerate(paper):
            led = [circles.led(node, telling) for telling in circles.tellings(node)]
            if node[1] == () or any(behind is not None and behind not in paper for behind in led):
                return ("node", k)
        return None

    def test_papers_with_faults(self):
        words = set()
        things = Things(374)
        for circles, (nodes, _) in some_circles(375, 12, 25):
            arguments = (circles.game, circles.wire, circles.many)
            paper = tuple(sorted(nodes))
            every = sorted(circles.whole.all_states())
            values = [paper, paper[::-1], paper + paper, ()]
            values += [paper[:k] + paper[k + 1:] for k in range(min(5, len(paper)))]
            for _ in range(6):
                speakers, some, sets = things.random.choice(paper)
                new = as_set(things.random.sample(every, things.random.randint(0, 2)))
                values += [paper + ((speakers, new, sets),), ((speakers, new, sets),) + paper]
                if new:
                    k = things.random.randrange(len(sets))
                    values.append(paper + ((speakers, some, sets[:k] + ((sets[k][0], new),) + sets[k + 1:]),))
            for value in values:
                wanted = self.fault(circles, value)
                self.assertEqual(comparing_paper_error(*arguments, value), wanted)
                words.add(wanted if wanted is None or isinstance(wanted, str) else wanted[0])
                if wanted is None:
                    self.assertIsNone(comparing(*arguments))
        self.assertEqual(words, {None, "begun", "node"})

    def test_a_telling_may_lead_to_a_node_of_the_paper_with_no_state(self):
        # Such a node is at fault itself; those that lead to it are not.
        circles = Circles(PARITY, EARLY, 2)
        begun = circles.begun()
        behind = {circles.led(begun, telling) for telling in circles.tellings(begun)} - {None}
        good, bad = sorted(node for node in behind if node[1]), sorted(node for node in behind if not node[1])
        self.assertTrue(good and bad)
        paper = (begun, *bad, *good)
        self.assertEqual(comparing_paper_error(PARITY, EARLY, 2, paper), ("node", 1))
        self.assertEqual(comparing_paper_error(PARITY, EARLY, 2, (begun, *bad[1:], *good)), ("node", 0))

    def test_values_without_form(self):
        paper = comparing_paper(PARITY, SHOWN, 2)
        speakers, some, sets = paper[0]
        state = some[0]
        bad = [None, (), (speakers, some), (speakers, some, sets, ()), [speakers, some, sets], ((), some, sets),
               ((), some, ()), ((), (), ()), (None, some, sets),
               ((0, 0), some, sets), (speakers[::-1], some, sets), ((0, 1, 3), some, sets), ((0, True, 2), some, sets),
               ([0, 1, 2], some, sets), (speakers, None, sets), (speakers, [state], sets), (speakers, (state, state), sets),
               (speakers, ((0, 0, 0, 3),), sets), (speakers, (state[:3],), sets), (speakers, some, ()), (speakers, some, None),
               (speakers, some, list(sets)), (speakers, some, sets[1:]), (speakers, some, sets + sets[-1:]),
               (speakers, some, sets[::-1]), (speakers, some, (sets[0],) * 3), ((0,), some, sets), (speakers, [], sets)]
        circle = sets[0][0]
        bad += [(speakers, some, (item,) + sets[1:]) for item in (
            None, (), (circle,), (circle, some, 0), [circle, some], (circle, ()), (circle, None), (circle, [state]),
            (circle, (state, state)), ((0, 2), some), ((False, 1), some), ([0, 1], some), ((0,), some), (None, some),
            (circle, ((0, 0, 0, True),)), (circle, state))]
        for k in (0, 1, len(paper)):
            for node in bad:
                value = paper[:k] + (node,) + paper[k:]
                self.assertEqual(comparing_paper_error(PARITY, SHOWN, 2, value), "form", node)
        for value in (list(paper), paper[0], dict.fromkeys(paper)) + ODD_VALUES + MIXED:
            wanted = "begun" if value == () and isinstance(value, tuple) else "form"
            self.assertEqual(comparing_paper_error(PARITY, SHOWN, 2, value), wanted)
        # Nobody is left of some circles: they are left out.
        self.assertEqual(comparing_paper_error(PARITY, SHOWN, 1, (((0,), some, (((0,), some),)),)), "begun")
        self.assertEqual(comparing_paper_error(PARITY, SHOWN, 1, (((0,), some, (((0,), some), ((1,), some))),)), "form")

    def test_if_nothing_is_told(self):
        for many in (1, 2):
            paper = comparing_paper(PARITY, silent_wire(PARITY), many)
            self.assertIsNone(comparing_paper_error(PARITY, silent_wire(PARITY), many, paper))
            self.assertIsNone(comparing(PARITY, silent_wire(PARITY), many))


if __name__ == "__main__":
    unittest.main()

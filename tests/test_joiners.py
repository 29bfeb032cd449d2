"""Joiners: their rules, what they are told, tales by which they lack or spill, and papers that they never do."""

import itertools
import unittest

from knownplay.joiners import join_gap, join_letter, join_paper, join_paper_error, join_spill, join_tale_error, joined
from knownplay.joiners import rule_error
from knownplay.knownwires import bare_wire, silent_wire
from knownplay.plays import play_error, state_of, states
from tests.knowing import LIMIT, MIXED, Knowing, counting, some_knowing, surer, too_many
from tests.model import told
from tests.test_classes import BLIND, DIE, KEEN
from tests.things import HIDE, ODD_VALUES, YES, ZERO, Things

FULL, SEVEN = ((YES, ("cell", 0)),), ((("same", ("cell", 0), ("is", 0)), ("is", 7)),)
NO = ("not", YES)
ENTRY = (YES, ("cell", 0))
DEEP = ("not", ("not", ("not", ("not", ("not", ("not", YES))))))


def hidden_chain(last):
    """A game of a counter from 0 to last, at most 35, which may go on or stay at each tick; nobody sees it."""
    at_last = ("both", ("same", ("cell", 0), ("is", last % 6)), ("same", ("cell", 1), ("is", last // 6)))
    carry = ("same", ("sum", ("cell", 0), ("draw",)), ("is", 6))
    effects = ((0, ("choose", at_last, ("cell", 0), ("sum", ("cell", 0), ("draw",)))),
               (1, ("choose", ("both", ("not", at_last), carry), ("sum", ("cell", 1), ("is", 1)), ("cell", 1))))
    return (2, ((6, 0), (6, 0)), ((None, 2, YES, effects, ()),), ((NO, NO),) * 2)


class Joining(Knowing):
    """One player, and who joins by a rule."""

    def __init__(self, game, wire, player, rule):
        super().__init__(game, wire, (player,))
        self.rule = rule
        self.come = tuple(sorted(self.far()))
        self.sets = {state: tuple(one for one in self.come if self.told_in(one) == self.told_in(state))
                     for state in self.come}

    def told_in(self, state):
        """The letter that the rule tells in a state."""
        return self.letter(self.rule, (state, state, 0, 0, False))

    def far_triples(self, most=4 * LIMIT):
        """A dict of the triples that come: of each how few moves lead there; elders, and who joined, told apart."""
        elders, joiners, found, met = {(self.first, self.alone())}, set(), {}, set()
        for many in itertools.count():
            met |= elders
            joiners |= {(state, some, self.sets[state]) for state, some in elders}
            for triple in joiners:
                found.setdefault(triple, many)
            ahead = joiners
            elders = {(behind, self.after(some, letters)) for state, some in elders
                      for _, letters, behind in self.moves_heard(state)} - met
            joiners = {(behind, self.after(some, letters), self.after(other, letters)) for state, some, other in ahead
                       for _, letters, behind in self.moves_heard(state)} - set(found)
            if not elders and not joiners:
                return found
            if len(found) > most:
                return None

    def has(self, word, triple):
        """Whether a triple has a gap, or a spill."""
        return surer(triple[1], triple[2]) if word == "gap" else surer(triple[2], triple[1])

    def behind_tale(self, ahead, behind):
        """The triple behind a tale."""
        state, some = self.first, self.alone()
        for moves in (ahead, behind):
            for move in moves:
                letters, after = next((letters, after) for one, letters, after in self.moves_heard(state) if one == move)
                state, some = after, self.after(some, letters)
                if moves is behind:
                    other = self.after(other, letters)
            if moves is ahead:
                other = self.sets[state]
        return (state, some, other)


def some_joining(seed, many):
    """So many Joinings of tiny games."""
    things = Things(seed)
    found = []
    for knowing in some_knowing(seed, many):
        cells = len(knowing.game[1])
        rule = tuple((things.tiny_condition(cells), things.tiny_term(cells, ())) for _ in range(things.random.randint(0, 2)))
        found.append(Joining(knowing.game, knowing.wire, things.random.randrange(knowing.game[0]), rule))
    return found + [Joining(DIE, wire, 0, rule) for wire in (BLIND, KEEN) for rule in ((), FULL, SEVEN)]


class Rules(unittest.TestCase):
    def test_rules_are_rules(self):
        things = Things(311)
        for many in range(8):
            for _ in range(30):
                game = things.game()
                place = (len(game[1]), ())
                rule = tuple((things.condition(place, 3), things.term(place, 3)) for _ in range(many))
                self.assertIsNone(rule_error(game, rule))

    def test_a_fault_in_each_place(self):
        bad = [(NO, ("was", 0)), (NO, ("draw",)), (NO, ("deed",)), (NO, ("cell", 2)), (("done",), ZERO), (YES, YES),
               (("same", ("deed",), ZERO), ZERO), (("same", ("was", 0), ZERO), ZERO), (("same", ("draw",), ZERO), ZERO),
               (("below", ("cell", 2), ZERO), ZERO), (DEEP, ZERO), (YES, ("choose", DEEP[1], ZERO, ZERO)), (ZERO, ZERO),
               (YES, ("choose", ("not", ("done",)), ZERO, ZERO)), (YES, ("is", 100)), (None, ZERO), (YES, None),
               (YES, ("cell", True)), ((), ()), ([], {}), ("yes", ZERO), (["yes"], ZERO), (YES, ["is", 0])]
        for many in range(1, 8):
            for k in range(many):
                for entry in bad:
                    rule = (ENTRY,) * k + (entry,) + (ENTRY,) * (many - k - 1)
                    self.assertEqual(rule_error(HIDE, rule), ("entry", k), entry)
                    self.assertEqual(rule_error(HIDE, rule[:-1] + (bad[0],)), ("entry", k))

    def test_values_without_form(self):
        for value in (None, [], [ENTRY], (ENTRY,) * 8, (ENTRY, None), (ENTRY, YES), (ENTRY, list(ENTRY)), (ENTRY, ENTRY + YES),
                      ((NO, ("was", 0)), ()), ENTRY, {}, "rule", 0, ((ZERO,),)):
            self.assertEqual(rule_error(HIDE, value), "form", value)
        for value in ODD_VALUES + MIXED:
            pairs = isinstance(value, tuple) and len(value) <= 7
            pairs = pairs and all(isinstance(item, tuple) and len(item) == 2 for item in value)
            wanted = "form" if not pairs else None if value == () else ("entry", 0)
            self.assertEqual(rule_error(HIDE, value), wanted)
            self.assertEqual(rule_error(HIDE, (ENTRY, (value, ZERO))), ("entry", 1))
            self.assertEqual(rule_error(HIDE, (ENTRY, (YES, value))), ("entry", 1))

    def test_letters_and_who_joins_by_them(self):
        for joining in some_joining(312, 60):
            game, rule = joining.game, joining.rule
            for state in joining.all_states():
                wanted = tuple(told(what)(state, state, 0, 0, False) if told(when)(state, state, 0, 0, False) else None
                               for when, what in rule)
                self.assertEqual(join_letter(game, rule, state), wanted)
            for state in joining.come:
                letter = join_letter(game, rule, state)
                self.assertEqual(joined(game, rule, letter), joining.sets[state])
                for bad in (letter + (None,), list(letter), letter[:-1] + (77,), tuple(True for _ in letter), (letter,)):
                    if bad != letter or repr(bad) != repr(letter):
                        self.assertEqual(joined(game, rule, bad), ())

    def test_letters_that_are_none(self):
        for value in ODD_VALUES + MIXED:
            self.assertEqual(joined(DIE, (), value), states(DIE) if value == () and isinstance(value, tuple) else ())
            if value not in ((None,), (0,)) or not isinstance(value, tuple):
                self.assertEqual(joined(DIE, FULL, value), ())
        self.assertEqual(joined(DIE, FULL, (1,)), ((1,),))
        self.assertEqual(joined(DIE, FULL, (True,)), ())
        self.assertEqual(joined(DIE, FULL, (False,)), ())
        # A state that never comes is told to nobody.
        dead = (2, ((3, 0),), ((0, 1, YES, ((0, ("less", ("is", 1), ("cell", 0))),), (0,)),), ((YES,),) * 2)
        self.assertEqual((joined(dead, FULL, (2,)), joined(dead, (), ())), ((), ((0,), (1,))))

    def test_just_3000_states_and_one_more(self):
        game, more = counting((5, 5, 5, 6, 4)), counting((5, 5, 5, 6, 4), (4, 4, 4, 5, 3))
        self.assertEqual(len(joined(game, (), ())), LIMIT)
        self.assertEqual(joined(game, ((YES, ("cell", 3)),), (6,)), ())
        for letter in ((), None, (0,), [], "x"):
            too_many(self, lambda: joined(more, (), letter))
        rule = tuple((YES, ("cell", c)) for c in range(5))
        self.assertIsNone(join_gap(game, bare_wire(game), 0, rule))
        for call in (join_gap, join_spill):
            too_many(self, lambda: call(more, bare_wire(more), 0, rule))
        for word in ("gap", "spill"):
            too_many(self, lambda: join_paper(more, bare_wire(more), 0, rule, word))
            for value in (None, (), ((), ()), "x"):
                too_many(self, lambda: join_tale_error(more, bare_wire(more), 0, rule, word, value))
                too_many(self, lambda: join_paper_error(more, bare_wire(more), 0, rule, word, value))


class Tales(unittest.TestCase):
    def test_as_short_as_can_be(self):
        lengths = {"gap": set(), "spill": set()}
        for joining in some_joining(313, 80):
            arguments = (joining.game, joining.wire, joining.ears[0], joining.rule)
            triples = joining.far_triples()
            for word, call in (("gap", join_gap), ("spill", join_spill)):
                many = min([many for triple, many in triples.items() if joining.has(word, triple)], default=None)
                tale, paper = call(*arguments), join_paper(*arguments, word)
                lengths[word].add(many)
                if many is None:
                    self.assertIsNone(tale)
                    self.assertIsNone(join_paper_error(*arguments, word, paper))
                    self.assertIsNone(join_paper_error(*arguments, word, tuple(sorted(triples))))
                    continue
                self.assertIsNone(paper)
                self.assertEqual(len(tale[0]) + len(tale[1]), many)
                self.assertIsNone(play_error(joining.game, tale[0] + tale[1]))
                self.assertTrue(joining.has(word, joining.behind_tale(*tale)))
                self.assertIsNone(join_tale_error(*arguments, word, tale))
                self.assertLess(many, len(triples))
        for word, found in lengths.items():
            self.assertTrue({None, 1, 2} <= found, (word, found))

    def test_all_short_tales(self):
        found = set()
        for joining in some_joining(314, 25):
            arguments = (joining.game, joining.wire, joining.ears[0], joining.rule)
            plays = [play for ticks in range(4) for play, _, _ in joining.plays_heard(ticks)[:15]]
            for play in plays:
                for cut, word in itertools.product(range(len(play) + 1), ("gap", "spill")):
                    tale = (play[:cut], play[cut:])
                    wanted = None if joining.has(word, joining.behind_tale(*tale)) else "none"
                    self.assertEqual(join_tale_error(*arguments, word, tale), wanted)
                    found.add((word, wanted))
                    self.assertEqual(join_tale_error(*arguments, word, (play[:cut] + ((9, 9),), play[cut:])), ("ahead", cut))
                    self.assertEqual(join_tale_error(*arguments, word, (play[:cut], play[cut:] + (None,))),
                                     ("behind", len(play) - cut))
        self.assertEqual(len(found), 4)

    def test_a_long_tale(self):
        thrown = ((0, 1), (2, 0)) * 700
        self.assertIsNone(join_tale_error(DIE, KEEN, 0, SEVEN, "gap", (thrown[:701], thrown[701:702])))
        self.assertEqual(join_tale_error(DIE, KEEN, 0, SEVEN, "gap", (thrown[:1], thrown[1:])), "none")
        self.assertEqual(join_tale_error(DIE, KEEN, 0, FULL, "gap", (thrown, thrown)), "none")
        self.assertEqual(join_tale_error(DIE, KEEN, 0, FULL, "gap", (thrown, thrown + ((2, 1),))), ("behind", 1400))

    def test_values_without_form(self):
        for value in ODD_VALUES + MIXED + (((), []), ([], ()), ((), (), ()), ((),), [(), ()], (((0, 1),), None)):
            rows = isinstance(value, tuple) and len(value) == 2 and all(isinstance(item, tuple) for item in value)
            if not rows:
                self.assertEqual(join_tale_error(DIE, KEEN, 0, SEVEN, "gap", value), "form", value)
        for bad in MIXED + ODD_VALUES + ((0, True), (0, 2), (3, 0), [0, 1], (0, 1, 0)):
            if play_error(DIE, (bad,)) is not None:
                for value in (((0, 1), bad), (bad,)), (((0, 1), bad), ()):
                    self.assertEqual(join_tale_error(DIE, KEEN, 0, SEVEN, "gap", value), ("ahead", 1))
                self.assertEqual(join_tale_error(DIE, KEEN, 0, SEVEN, "gap", (((0, 1),), (bad, bad))), ("behind", 0))


class Papers(unittest.TestCase):
    def fault(self, joining, word, paper):
        """What is told of a tuple of triples that have their form."""
        if any(one >= other for one, other in zip(paper, paper[1:])):
            return "order"
        if (joining.first, joining.alone(), joining.sets[joining.first]) not in paper:
            return "begun"
        for k, (state, some, other) in enumerate(paper):
            if joining.has(word, (state, some, other)):
                return ("triple", k)
            for _, letters, behind in joining.moves_heard(state):
                gone = joining.after(some, letters)
                for joiner in (joining.after(other, letters), joining.sets[behind]):
                    if (behind, gone, joiner) not in paper:
                        return ("triple", k)
        return None

    def test_papers_with_faults(self):
        things = Things(315)
        told_faults = set()
        for joining in some_joining(316, 60):
            arguments = (joining.game, joining.wire, joining.ears[0], joining.rule)
            paper = tuple(sorted(joining.far_triples()))
            for word in ("gap", "spill"):
                values = [paper, paper[::-1], paper + paper[-1:], ()]
                values += [paper[:k] + paper[k + 1:] for k in range(min(8, len(paper)))]
                for _ in range(8):
                    state = things.random.choice(joining.come)
                    sets = [tuple(sorted({state, *things.random.sample(joining.come, min(2, len(joining.come)))}))
                            for _ in range(2)]
                    values.append(tuple(sorted({*paper, (state, *sets)})))
                    values.append(paper + ((state, *sets),))
                for value in values:
                    wanted = self.fault(joining, word, value)
                    self.assertEqual(join_paper_error(*arguments, word, value), wanted)
                    told_faults.add(wanted if wanted is None or isinstance(wanted, str) else wanted[0])
        self.assertEqual(told_faults, {None, "order", "begun", "triple"})

    def test_values_without_form(self):
        paper = join_paper(DIE, KEEN, 0, FULL, "gap")
        some = ((0,), (1,))
        bad = [None, (), ((0,), some), ((0,), some, some, some), [(0,), some, some], ((0,), some, [(0,), (1,)]),
               ((2,), some, ((2,),)), ((2,), ((2,),), some), ((0,), (), ((0,),)), ((0,), ((0,),), ()), ((3,), ((3,),), ((3,),)),
               ((0,), ((1,), (0,)), some), ((0,), some, ((0,), (0,))), ((False,), some, some), ((0,), ((False,),), some),
               ((0,), some, ((0,), (True,))), (0, some, some), ((0, 0), some, some), ((0,), (0,), some), ((0,), None, some)]
        for k in (0, 2, len(paper)):
            for triple in bad:
                for word in ("gap", "spill"):
                    value = paper[:k] + (triple,) + paper[k:]
                    self.assertEqual(join_paper_error(DIE, KEEN, 0, FULL, word, value), "form", triple)
        for value in (list(paper), dict.fromkeys(paper), paper[0]) + ODD_VALUES + MIXED:
            wanted = "begun" if value == () and isinstance(value, tuple) else "form"
            self.assertEqual(join_paper_error(DIE, KEEN, 0, FULL, "gap", value), wanted, value)
        # States that never come may not stand in a paper.
        dead = (2, ((3, 0),), ((0, 1, YES, ((0, ("less", ("is", 1), ("cell", 0))),), (0,)),), ((YES,),) * 2)
        right = join_paper(dead, bare_wire(dead), 0, FULL, "gap")
        self.assertIsNone(join_paper_error(dead, bare_wire(dead), 0, FULL, "gap", right))
        for triple in (((2,), ((2,),), ((2,),)), ((1,), ((1,), (2,)), ((1,),)), ((1,), ((1,),), ((1,), (2,)))):
            self.assertEqual(join_paper_error(dead, bare_wire(dead), 0, FULL, "gap", right + (triple,)), "form")

    def test_too_many_triples(self):
        # To whom nothing is told by the rule each state has two triples, but for one to which all was told just now.
        game, more = counting((5, 5, 5, 6, 2)), counting((5, 5, 5, 6, 2), (4, 4, 4, 5, 1))
        self.assertEqual(len(states(more)), 1501)
        for word in ("gap", "spill"):
            call = join_gap if word == "gap" else join_spill
            self.assertEqual(call(game, bare_wire(game), 0, ()), ((), ()) if word == "gap" else None)
            too_many(self, lambda: call(more, bare_wire(more), 0, ()))
            too_many(self, lambda: join_paper(more, bare_wire(more), 0, (), word))
            self.assertEqual(join_tale_error(more, bare_wire(more), 0, (), word, ((), ())), None if word == "gap" else "none")
            self.assertEqual(join_paper_error(more, bare_wire(more), 0, (), word, ()), "begun")
        self.assertEqual(len(join_paper(game, bare_wire(game), 0, (), "spill")), LIMIT)

    def test_many_triples_of_few_states(self):
        rule = ((YES, ("cell", 0)), (YES, ("cell", 1)))
        raised = set()
        for last in (5, 11, 14, 17, 20, 24):
            game = hidden_chain(last)
            triples = Joining(game, silent_wire(game), 0, rule).far_triples()
            if triples is None or len(triples) > LIMIT:
                raised.add(True)
                for word in ("gap", "spill"):
                    too_many(self, lambda: join_paper(game, silent_wire(game), 0, rule, word))
                too_many(self, lambda: join_gap(game, silent_wire(game), 0, rule))
                too_many(self, lambda: join_spill(game, silent_wire(game), 0, rule))
            else:
                raised.add(False)
                self.assertEqual(join_paper(game, silent_wire(game), 0, rule, "gap"), tuple(sorted(triples)))
                self.assertEqual(state_of(game, sum(join_spill(game, silent_wire(game), 0, rule), ())), (0, 0))
        self.assertEqual(raised, {True, False})


if __name__ == "__main__":
    unittest.main()

"""What is firm of tries, against all plays of tries and of others' moves; papers, tales and what disturbs."""

import itertools
import unittest

from knownplay.errors import TooMany
from knownplay.firmness import disturbs, disturbs_error, firm_cells, firm_error, firm_paper, firm_paper_error, firm_row
from knownplay.firmness import firm_tale, firm_tale_error, firm_then, tries_lot
from knownplay.knowngames import known_game, known_names
from knownplay.knownwires import plain_wire
from knownplay.sets import known
from knownplay.tries import alone_rows, guess_alone, guess_cells
from knownplay.views import sight
from knownplay.wires import heard
from tests.knowing import MIXED, too_many
from tests.model import Model
from tests.test_tries import LAMP, THROWS, wide, wide_states
from tests.things import ODD_VALUES, YES, Things
from tests.trying import REFUSED, Trying, some_trying

DARK = ((0, 0, 0),)


def shown_rows(things, trying, many):
    """Some shown rows: results that tries have, such that they do not have, and None."""
    results = [sorted(found) for found in trying.results(trying.far())]
    rows = [tuple(things.random.choice([None, None, *found, REFUSED, ("set", ()), ("set", ((0, 1),))])
                  for found in results) for _ in range(many)]
    return rows + [firm_row(*trying.arguments), guess_alone(*trying.arguments), (None,) * len(results)]


def is_firm(trying, shown):
    """Whether a shown row is firm."""
    return not any(trying.is_wrong(shown, pair) for pair in trying.far())


class Lots(unittest.TestCase):
    def test_against_all_plays_of_few_ticks(self):
        for trying in some_trying(511, 80):
            lot = tries_lot(*trying.arguments)
            layer = {(0, state) for state in trying.known}
            come = set(layer)
            for _ in range(6):
                layer = {behind for pair in layer for _, behind in trying.ons(pair)}
                come |= layer
            self.assertLessEqual(come, set(lot))
            self.assertEqual({pair for pair, far in trying.far().items() if far <= 6}, come)
            self.assertEqual(lot, tuple(sorted(trying.far())))

    def test_moves_of_others_come_where_all_is_tried_too(self):
        self.assertIn((1, (5,)), tries_lot(THROWS, 0, ((0,),), (0,)))
        self.assertIn((2, (0, 0, 0)), tries_lot(LAMP, 0, DARK, (0, 0)))
        # The player itself does nothing else.
        self.assertEqual({pair[1][2] for pair in tries_lot(LAMP, 0, DARK, (0, 0))}, {0})

    def test_rows_and_cells(self):
        shown, hidden = 0, 0
        for trying in some_trying(512, 250):
            lot = trying.far()
            wanted = tuple(min(found) if len(found) == 1 else None for found in trying.results(lot))
            self.assertEqual(firm_row(*trying.arguments), wanted)
            last = len(trying.tries) - 1
            then = [behind[1] for pair in lot for _, behind in trying.ons(pair)
                    if (pair[0], behind[0]) == (last, last + 1)]
            self.assertEqual(firm_then(*trying.arguments), trying.cells(then))
            cells = firm_cells(*trying.arguments)
            self.assertEqual(cells, trying.cells([state for many, state in lot if many > last]))
            shown += sum(item is not None for item in wanted)
            hidden += cells.count("hidden")
        self.assertGreater(min(shown, hidden), 50)


class Rows(unittest.TestCase):
    def test_firm_rows_have_papers_and_others_tales(self):
        things = Things(513)
        firm, not_firm = 0, 0
        for trying in some_trying(514, 120):
            far = trying.far()
            for shown in shown_rows(things, trying, 4):
                wrong = [pair for pair in far if trying.is_wrong(shown, pair)]
                error = firm_error(*trying.arguments, shown)
                self.assertEqual(error, min(pair[0] for pair in wrong) if wrong else None)
                paper, tale = firm_paper(*trying.arguments, shown), firm_tale(*trying.arguments, shown)
                self.assertEqual((paper is None, tale is None), (bool(wrong), not wrong))
                if wrong:
                    self.assertEqual(len(tale[1]), min(far[pair] for pair in wrong) + 1)
                    self.assertIsNone(firm_tale_error(*trying.arguments, shown, tale))
                    not_firm += 1
                else:
                    self.assertIsNone(firm_paper_error(*trying.arguments, shown, paper))
                    firm += 1
        self.assertGreater(min(firm, not_firm), 100)

    def test_form(self):
        right = (("set", ((2, 1),)), None)
        for value in (None, [], list(right), right[:1], right + (None,), ("set", None), (True, None), ({}, None),
                      ([], None)):
            self.assertEqual(firm_error(LAMP, 0, DARK, (2, 0), value), "form", value)
        for value in ODD_VALUES + MIXED:
            if not isinstance(value, tuple) or len(value) != 2:
                self.assertEqual(firm_error(LAMP, 0, DARK, (2, 0), value), "form", value)

    def test_results_that_are_none(self):
        for item in ((), ("set",), ("set", ((2, True),)), ("set", ((2, 1, 0),)), ("set", [(2, 1)]), ("set", ([2, 1],)),
                     ("set", ((2, 1), (2, 1))), ("set", ((2, 0),)), ("refused", ()), REFUSED, (True,),
                     ("sets", ((2, 1),))):
            self.assertEqual(firm_error(LAMP, 0, DARK, (2, 0), (item, None)), 0, item)
        self.assertEqual(firm_error(LAMP, 0, DARK, (2, 0), (None, ("set", ((True, 0),)))), 1)
        self.assertIsNone(firm_error(LAMP, 0, DARK, (2, 0), (("set", ((2, 1),)), None)))
        # Of the cell 0 and of the value 1, as bools.
        for pair, wanted in (((0, 1), None), ((False, 1), 0), ((0, True), 0), ([0, 1], 0), ((0, 1, 0), 0)):
            self.assertEqual(firm_error(LAMP, 0, DARK, (3,), (("set", (pair,)),)), wanted)

    def test_the_least_try_is_told(self):
        self.assertEqual(firm_error(LAMP, 0, DARK, (0, 0, 0), (None, REFUSED, REFUSED)), 1)
        # Of a later try it can be known sooner.
        early = firm_tale(LAMP, 0, DARK, (0, 2), (("set", ((1, 0),)), REFUSED))
        self.assertEqual(len(early[1]), 2)


class Papers(unittest.TestCase):
    def test_faults(self):
        shown, lot = (("set", ((2, 1),)), None), tries_lot(LAMP, 0, DARK, (2, 0))
        bad = lambda value, row=shown, known=DARK: firm_paper_error(LAMP, 0, known, (2, 0), row, value)
        self.assertIsNone(bad(lot))
        for value in (None, list(lot), lot[::-1], lot + lot[-1:], lot[:1] + lot, (lot[0][:1],), ((3, (0, 0, 0)),),
                      ((True, (0, 0, 0)),), ((0, (0, 0, 2)),), ((0, (0, 0)),), ((0, [0, 0, 0]),), ((-1, (0, 0, 0)),),
                      (0,),
                      ((0, (0, 0, 0), 0),)):
            self.assertEqual(bad(value), "form", value)
        both = DARK + ((1, 0, 0),)
        self.assertEqual(bad((), known=both), ("begun", (0, 0, 0)))
        self.assertEqual(bad(lot[:1] + lot[2:], known=both), ("begun", (1, 0, 0)))
        for k in range(1, len(lot)):
            left = lot[:k] + lot[k + 1:]
            error = bad(left)
            place = min(at for at, pair in enumerate(left)
                        if any(behind == lot[k] for _, behind in Trying(LAMP, 0, DARK, (2, 0)).ons(pair)))
            self.assertEqual(error, ("step", place))

    def test_more_pairs_may_stand_in_it(self):
        things = Things(515)
        for trying in some_trying(516, 60):
            shown = firm_row(*trying.arguments)
            more = tuple(sorted(set(trying.known) | set(things.random.sample(trying.all_states(), 1))))
            paper = tries_lot(trying.game, trying.player, more, trying.tries)
            wrong = [k for k, pair in enumerate(paper) if trying.is_wrong(shown, pair)]
            self.assertEqual(firm_paper_error(*trying.arguments, shown, paper), ("result", wrong[0]) if wrong else None)

    def test_a_step_is_told_ahead_of_a_result(self):
        shown, lot = (("set", ()), None), tries_lot(LAMP, 0, DARK, (2, 0))
        self.assertEqual(firm_paper_error(LAMP, 0, DARK, (2, 0), shown, lot), ("result", 0))
        self.assertEqual(firm_paper_error(LAMP, 0, DARK, (2, 0), shown, lot[:5]), ("step", 3))
        self.assertEqual(firm_paper_error(LAMP, 0, DARK, (2, 0), shown, lot[2:]), ("begun", (0, 0, 0)))

    def test_values_of_any_kind(self):
        for value in ODD_VALUES + MIXED:
            self.assertEqual(firm_paper_error(LAMP, 0, DARK, (2, 0), (None, None), value),
                             ("begun", (0, 0, 0)) if value == () else "form")
            self.assertEqual(firm_tale_error(LAMP, 0, DARK, (2, 0), (None, None), value), "form")
            self.assertEqual(disturbs_error(LAMP, 0, DARK, (2, 0), value), "form")


class Tales(unittest.TestCase):
    def bad(self, value, shown=(("set", ((2, 1),)), ("set", ((1, 0),)))):
        return firm_tale_error(LAMP, 0, DARK, (2, 0), shown, value)

    def test_form(self):
        dark = DARK[0]
        for value in (None, (), (dark,), (dark, ()), (dark, [(1, 0)]), ([0, 0, 0], ((1, 0),)), (dark, ((1, 0), (2,))),
                      (dark, ((1, True),)), (dark, ((True, 0),)), (dark, ((1, None),)), (dark, ((1, 0, 0),)),
                      (dark, ((1, 0),), ()), (dark, (1, 0)), (dark, ([1, 0],))):
            self.assertEqual(self.bad(value), "form", value)

    def test_states_that_are_not_known(self):
        for state in ((1, 0, 0), (), (0, 0, False), (0, 0, 0, 0), ((0, 0, 0),), ("a",)):
            self.assertEqual(self.bad((state, ((9, 9),))), "state")

    def test_moves_that_are_no_steps(self):
        dark = DARK[0]
        for k, moves in ((0, ((9, 0),)), (0, ((0, 0), (9, 0))), (1, ((2, 0), (2, 0))), (0, ((2, 1),)),
                         (2, ((1, 0), (1, 0), (3, 0))),
                         (2, ((2, 0), (0, 0), (0, 0))), (0, ((-1, 0),)), (0, ((10 ** 399, 0),)),
                         (1, ((2, 0), (-2, 0)))):
            self.assertEqual(self.bad((dark, moves)), ("move", k), moves)
        # A longer tale will do, with moves of others ahead.
        self.assertIsNone(self.bad((dark, ((1, 0),) * 3 + ((2, 0), (1, 0), (0, 0)))))

    def test_the_last_move_has_to_be_a_try_of_another_result(self):
        dark = DARK[0]
        self.assertEqual(self.bad((dark, ((1, 0), (1, 0), (2, 0), (0, 0)))), "result")
        self.assertEqual(self.bad((dark, ((1, 0), (2, 0), (0, 0), (1, 0)))), "result")
        self.assertEqual(self.bad((dark, ((1, 0), (2, 0), (0, 0))), (None, None)), "result")
        self.assertIsNone(self.bad((dark, ((2, 0),)), (REFUSED, None)))
        # It ends with the first wrong one, or goes on to a later one.
        self.assertIsNone(self.bad((dark, ((2, 0), (0, 0))), (REFUSED, REFUSED)))

    def test_all_moves_of_tales(self):
        things = Things(517)
        seen = []
        for trying in some_trying(518, 60):
            for shown in shown_rows(things, trying, 2):
                for _ in range(4):
                    pair = (0, things.random.choice(trying.known))
                    state, moves, wanted = pair[1], [], None
                    for k in range(things.random.randint(1, 5)):
                        ons = dict(trying.ons(pair))
                        every = sorted(ons) + [(number, 0) for number in range(len(trying.game[2]))]
                        move = things.random.choice(every)
                        moves.append(move)
                        if move not in ons:
                            wanted = ("move", k)
                            break
                        told = trying.tried(pair).get(move)
                        due = told is not None and shown[pair[0]] not in (None, told)
                        wanted, pair = None if due else "result", ons[move]
                    self.assertEqual(firm_tale_error(*trying.arguments, shown, (state, tuple(moves))), wanted)
                    seen.append(wanted if wanted is None or wanted == "result" else "move")
        self.assertEqual(set(seen), {None, "result", "move"})


class Disturbing(unittest.TestCase):
    def test_as_short_as_can_be(self):
        none, some, far_ones = 0, 0, 0
        for trying in some_trying(519, 250):
            far = trying.far()
            places = {pair: trying.is_disturbed(pair) for pair in far}
            found = disturbs(*trying.arguments)
            least = min([far[pair] for pair in far if places[pair]], default=None)
            if least is None:
                self.assertIsNone(found)
                self.assertEqual(firm_row(*trying.arguments), guess_alone(*trying.arguments))
                none += 1
            else:
                self.assertEqual(len(found[1]), least)
                self.assertIsNone(disturbs_error(*trying.arguments, found))
                some, far_ones = some + 1, far_ones + (least > 0)
        self.assertGreater(min(none, some), 50)
        self.assertGreater(far_ones, 3)

    def test_any_moves(self):
        things = Things(520)
        seen = []
        for trying in some_trying(521, 150):
            for _ in range(4):
                pair = (0, things.random.choice(trying.known))
                state, moves = pair[1], []
                for _ in range(things.random.randint(0, 3)):
                    ons = trying.ons(pair)
                    if not ons:
                        break
                    move, pair = things.random.choice(ons)
                    moves.append(move)
                deed = things.random.randrange(len(trying.game[2]))
                move = things.random.choice([(deed, 0), (deed, 1)])
                error = disturbs_error(*trying.arguments, (state, tuple(moves), pair[0], move))
                wanted = None if move in trying.is_disturbed(pair) else "alike"
                self.assertEqual(error, "place" if pair[0] == len(trying.tries) else wanted)
                self.assertEqual(disturbs_error(*trying.arguments, (state, tuple(moves), pair[0] + 1, move)), "place")
                seen.append(error)
        self.assertEqual(set(seen), {None, "alike", "place"})

    def test_faults(self):
        dark = DARK[0]
        bad = lambda *value: disturbs_error(LAMP, 0, DARK, (0,), value)
        self.assertIsNone(bad(dark, (), 0, (1, 0)))
        for value in ((), (dark, (), 0), (dark, (), 0, (1, 0), 0), ([0, 0, 0], (), 0, (1, 0)), (dark, [], 0, (1, 0)),
                      (dark, ((1,),), 0, (1, 0)), (dark, (), False, (1, 0)), (dark, (), None, (1, 0)),
                      (dark, (), 0, [1, 0]),
                      (dark, (), 0, (1, False)), (dark, (), 0, (True, 0)), (dark, (), 0, (1, 0, 0)),
                      (dark, (), 0, (1,)), (dark, (), 0, ())):
            self.assertEqual(bad(*value), "form", value)
        self.assertEqual(disturbs_error(LAMP, 0, DARK, (0,), [dark, (), 0, (1, 0)]), "form")
        self.assertEqual(bad((1, 0, 0), ((9, 9),), 5, (9, 9)), "state")
        self.assertEqual(bad((0, 0, False), (), 0, (1, 0)), "state")
        self.assertEqual(bad(dark, ((9, 9),), 5, (9, 9)), ("move", 0))
        self.assertEqual(bad(dark, ((1, 0), (2, 0)), 0, (1, 0)), ("move", 1))
        self.assertEqual(bad(dark, ((0, 0), (0, 0)), 2, (1, 0)), ("move", 1))
        for place in (1, -1, 10 ** 399):
            self.assertEqual(bad(dark, (), place, (1, 0)), "place")
        self.assertEqual(bad(dark, ((0, 0),), 0, (1, 0)), "place")
        for move in ((9, 9), (0, 0), (2, 0), (1, 1), (-1, 0)):
            self.assertEqual(bad(dark, (), 0, move), "alike")
        # A refused turn, of a locked lamp, disturbs nothing.
        self.assertEqual(disturbs_error(LAMP, 0, ((0, 0, 1),), (0,), ((0, 0, 1), (), 0, (1, 0))), "alike")


class TooManyPairs(unittest.TestCase):
    def test_just_the_number(self):
        states, row = wide_states(3000), (None,)
        calls = [tries_lot, firm_row, firm_then, firm_cells, disturbs]
        calls += [lambda *told, call=call: call(*told, row) for call in (firm_paper, firm_tale, firm_error)]
        calls += [lambda *told: firm_error(*told, "a row")]
        for call in calls:
            call(wide(), 0, states[:2999], (0,))
            too_many(self, lambda: call(wide(), 0, states, (0,)))

    def test_pairs_that_come_by_others_count(self):
        counting = tuple((1, 1, YES, ((cell, ("sum", ("cell", cell), ("is", 1))),), (1,)) for cell in range(5))
        game = wide(counting)
        for call in (tries_lot, firm_row, firm_then, firm_cells, disturbs):
            too_many(self, lambda: call(game, 0, ((0,) * 6,), (1,)))
        self.assertEqual(guess_alone(game, 0, ((0,) * 6,), (1,)), (("set", ()),))

    def test_judges_of_papers_and_tales_raise_nothing(self):
        states = wide_states(3100)
        row, first = (("set", ()),), states[0]
        try:
            self.assertEqual(firm_paper_error(wide(), 0, states, (1,), row, ()), ("begun", first))
            self.assertIsNone(firm_paper_error(wide(), 0, states, (1,), row,
                                               tuple((many, state) for many in (0, 1) for state in states)))
            self.assertEqual(firm_tale_error(wide(), 0, states, (1,), row, (first, ((1, 0),))), "result")
            self.assertEqual(disturbs_error(wide(), 0, states, (1,), (first, (), 0, (1, 0))), "alike")
        except TooMany:
            self.fail()


class WhatHolds(unittest.TestCase):
    def test_in_all_plays_by_which_a_row_is_heard(self):
        for seed, name in enumerate(known_names() * 2):
            things, game = Things(530 + seed), known_game(name)
            wire, model = plain_wire(game), Model(known_game(name))
            begun = model.some_play(things.random, 3)
            player = things.random.choice([deed[0] for deed in game[2] if deed[0] is not None])
            some = known(game, wire, (player,), heard(game, wire, (player,), begun))
            self.assertIn(model.through(begun)[-1], some)
            deeds = [number for number, deed in enumerate(game[2]) if deed[0] == player]
            tries = tuple(things.random.choice(deeds) for _ in range(2))
            row, then, after = (call(game, player, some, tries) for call in (firm_row, firm_then, firm_cells))
            trying = Trying(game, player, some, tries)
            for _ in range(10):
                pair = (0, things.random.choice(some))
                for _ in range(12):
                    ons = trying.ons(pair)
                    if not ons:
                        break
                    move, behind = things.random.choice(ons)
                    told = trying.tried(pair).get(move)
                    if told is not None:
                        self.assertIn(row[pair[0]], (None, told))
                    if behind[0] == len(tries):
                        seen = ["hidden" if item is None else ("seen", item) for item in sight(game, player, behind[1])]
                        if pair[0] < behind[0]:
                            self.assertTrue(all(item in (None, its_like) for item, its_like in zip(then, seen)))
                        self.assertTrue(all(item in (None, its_like) for item, its_like in zip(after, seen)))
                    pair = behind

    def test_more_known_and_more_tries(self):
        for trying in some_trying(522, 120):
            row = firm_row(*trying.arguments)
            for k in range(1, len(trying.tries)):
                self.assertEqual(firm_row(*trying.arguments[:3], trying.tries[:k]), row[:k])
            less = firm_row(trying.game, trying.player, trying.known[:1], trying.tries)
            self.assertTrue(all(item is None or item == its_like for item, its_like in zip(row, less)))
            then, after = firm_then(*trying.arguments), firm_cells(*trying.arguments)
            self.assertTrue(all(item is None or item == its_like for item, its_like in zip(after, then)))
            # No firm row shows more.
            for k, found in enumerate(trying.results(trying.far())):
                for told in found:
                    shown = row[:k] + (told,) + row[k + 1:]
                    self.assertEqual(is_firm(trying, shown), row[k] == told)

    def test_if_nobody_else_moves(self):
        for trying in some_trying(523, 120):
            others = tuple(deed for deed in trying.game[2] if deed[0] == trying.player)
            if others:
                places = {number: k for k, number in enumerate(
                    [number for number, deed in enumerate(trying.game[2]) if deed[0] == trying.player])}
                alone = (trying.game[0], trying.game[1], others, trying.game[3])
                tries = tuple(places[number] for number in trying.tries)
                arguments = (alone, trying.player, trying.known, tries)
                self.assertEqual(firm_row(*arguments), guess_alone(*arguments))
                self.assertEqual(firm_row(*arguments), guess_alone(*trying.arguments))
                self.assertEqual(firm_cells(*arguments), guess_cells(*arguments))
                self.assertEqual(firm_then(*arguments), guess_cells(*arguments))
                self.assertIsNone(disturbs(*arguments))

    def test_a_move_may_disturb_and_nothing_be_firm_either_way(self):
        both = DARK + ((1, 0, 0),)
        self.assertEqual(firm_row(LAMP, 0, both, (0,)), guess_alone(LAMP, 0, both, (0,)))
        self.assertIsNotNone(disturbs(LAMP, 0, both, (0,)))
        self.assertNotEqual(alone_rows(LAMP, both[0], (0,)), alone_rows(LAMP, both[1], (0,)))
        self.assertEqual(len(set(itertools.chain(*alone_rows(THROWS, (0,), (0, 0))))), 2)


if __name__ == "__main__":
    unittest.main()

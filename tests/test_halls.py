"""Halls: edits with each of their words, undoing, twins, equality, and what is asked of one, against a second going."""

import unittest

from knownplay.errors import BadGame, BadRule, BadWire, NothingToRedo, NothingToUndo, Refused, TooMany, TooManyEdits, Unfit
from knownplay.games import game_error
from knownplay.halls import Hall
from knownplay.joiners import join_gap, join_spill
from knownplay.justpapers import is_just
from knownplay.knowngames import known_game
from knownplay.knownwires import plain_wire, silent_wire
from knownplay.plays import state_of
from knownplay.sets import wrong_play
from knownplay.views import view
from knownplay.watchers import reach
from tests.going import Going, Wrong, some_edit
from tests.knowing import MIXED, counting, some_knowing, too_many
from tests.test_houses import some_rule
from tests.test_leaks import BLAB, BOX, FAIR, WHETHER
from tests.test_tries import LAMP
from tests.things import ODD_VALUES, YES, Things

LOOKS = ("sent", "road", "device", "tick", "lacks", "on_the_way", "open_tries", "shown", "ahead", "firm", "guests",
         "elder_shown")
EDITS = {"offer": 2, "take": 2, "come": 2, "twice": 2, "lose": 2, "ask": 2, "mend": 1, "join": 1}
WIRE = (FAIR, FAIR)


def new_hall():
    """A hall of the box."""
    return Hall(BOX, WIRE, (WHETHER,))


def everything(hall):
    """All that a hall tells, but for what takes long."""
    shown = [(player, [getattr(hall, word)(player) for word in LOOKS]) for player in range(hall.game[0])]
    return (hall.game, hall.wire, hall.rule, hall.play, hall.state, hall.version, hall.undone, hall.edits, shown,
            hall.accused())


def some_halls(seed, many, edits=30):
    """So many pairs of a hall and a Going, behind some edits."""
    things = Things(seed)
    found = []
    for knowing in some_knowing(seed + 1, many, 60):
        game = knowing.game
        wire = things.random.choice((knowing.wire, plain_wire(game)))
        hall, going = Hall(game, wire, some_rule(things, game)), None
        going = Going(game, wire, hall.rule)
        for _ in range(edits):
            call = some_edit(things.random, going)
            try:
                going.edit(*call)
            except Wrong:
                continue
            getattr(hall, call[0])(*call[1:])
        found.append((hall, going))
    return found


def refused(test, word, call, *arguments):
    """Lets test fail if a call is not refused with a word."""
    with test.assertRaises(Refused) as caught:
        call(*arguments)
    test.assertEqual(vars(caught.exception), {"word": word})


class Walks(unittest.TestCase):
    def test_against_a_second_going(self):
        things, seen = Things(601), set()
        for knowing in some_knowing(602, 60, 60):
            game = knowing.game
            wire = things.random.choice((knowing.wire, plain_wire(game)))
            rule = some_rule(things, game)
            hall, going = Hall(game, wire, rule), Going(game, wire, rule)
            log = []
            for _ in range(30):
                call = some_edit(things.random, going)
                try:
                    going.edit(*call)
                except Wrong as wrong:
                    refused(self, wrong.args[0], getattr(hall, call[0]), *call[1:])
                    seen.add((call[0], wrong.args[0]))
                else:
                    self.assertEqual(getattr(hall, call[0])(*call[1:]), len(log) + 1)
                    log.append(call)
                    seen.add(call[0])
                self.compare(hall, going, log)
            self.compare_shown(hall, going)
        self.assertLessEqual({"offer", "take", "serve", "come", "twice", "lose", "ask", "mend", "join"}, seen)
        self.assertLessEqual({("offer", "deed"), ("take", "way"), ("take", "move"), ("serve", "move"),
                              ("come", "number"), ("twice", "number"),
                              ("lose", "number"), ("ask", "number"), ("mend", "whole"), ("come", "player")}, seen)

    def compare(self, hall, going, log):
        """What hangs on edits alone."""
        self.assertEqual((hall.play, hall.state, hall.version, hall.undone),
                         (going.play, going.played[-1], len(log), 0))
        self.assertEqual((hall.edits, hall.state), (tuple(log), state_of(hall.game, hall.play)))
        for player in range(hall.game[0]):
            self.assertEqual(hall.sent(player), going.letters(player))
            self.assertEqual(hall.road(player), going.road(player))
            self.assertEqual(hall.device(player), going.device(player))
            self.assertEqual(hall.tick(player), going.tick(player))
            self.assertEqual(hall.lacks(player), going.lacks(player))
            self.assertEqual(hall.on_the_way(player), going.on_the_way(player))
            self.assertEqual(hall.open_tries(player), going.open_tries(player))
            self.assertEqual(hall.guests(player), going.joined[player])

    def compare_shown(self, hall, going):
        """What is shown."""
        for player in range(hall.game[0]):
            self.assertEqual(hall.shown(player), going.shown(player))
            self.assertEqual(hall.ahead(player), going.ahead(player))
            self.assertEqual(hall.firm(player), going.firm(player))
            self.assertEqual(hall.elder_shown(player), going.elder_shown(player))
            for place in range(len(hall.guests(player))):
                self.assertEqual(hall.guest_shown(player, place), going.guest_shown(player, place))
            for lag in (0, 1, 2, 5, 200):
                self.assertEqual(hall.watched_shown(player, lag), going.watched_shown(player, lag))
        self.assertEqual(hall.accused(), ())

    def test_the_new_hall(self):
        hall = new_hall()
        self.assertEqual((hall.game, hall.wire, hall.rule, hall.play, hall.state, hall.version, hall.undone,
                          hall.edits),
                         (BOX, WIRE, (WHETHER,), (), (0, 0), 0, 0, ()))
        for player in range(2):
            told = [getattr(hall, word)(player) for word in LOOKS]
            self.assertEqual(told, [((None, 0),), (0,), ((), ()), -1, (), (), (), None, None, None, (), (0, 0)])
        self.assertEqual(hall.accused(), ())


class Made(unittest.TestCase):
    def test_games_wires_and_rules_that_are_none(self):
        for value in ODD_VALUES + MIXED:
            with self.assertRaises(BadGame) as caught:
                Hall(value, value, value)
            self.assertEqual(vars(caught.exception), {"error": game_error(value)})
            if value not in ((), ((), ())):
                with self.assertRaises((BadWire, BadRule)):
                    Hall(BOX, value, value)
        for wire, error in ((None, "form"), ((FAIR,), "form"), ((FAIR, (YES,)), ("entry", 1, 0))):
            with self.assertRaises(BadWire) as caught:
                Hall(BOX, wire, None)
            self.assertEqual(vars(caught.exception), {"error": error})
        for rule, error in ((None, "form"), ((WHETHER,) * 8, "form"), ((WHETHER, (YES, ("was", 0))), ("entry", 1))):
            with self.assertRaises(BadRule) as caught:
                Hall(BOX, WIRE, rule)
            self.assertEqual(vars(caught.exception), {"error": error})

    def test_by_names(self):
        self.assertEqual(Hall(rule=(), wire=WIRE, game=BOX), Hall(BOX, WIRE, ()))


class Words(unittest.TestCase):
    def test_players_that_are_none(self):
        hall = new_hall()
        hall.serve(0, 1)
        before = everything(hall)
        for value in ODD_VALUES + MIXED + (-1, 2, True, False, "0", [0], None):
            if type(value) is int and value in (0, 1):
                continue
            for word, many in EDITS.items():
                refused(self, "player", getattr(hall, word), value, *[value] * (many - 1))
                refused(self, "player", getattr(hall, word), value, *[0] * (many - 1))
            for word in LOOKS:
                with self.assertRaises(Unfit):
                    getattr(hall, word)(value)
            for word in ("guest_shown", "watched_shown"):
                with self.assertRaises(Unfit):
                    getattr(hall, word)(value, 0)
        self.assertEqual(everything(hall), before)

    def test_numbers_that_are_none(self):
        hall = new_hall()
        for call in (("serve", 0, 1), ("offer", 0, 1), ("join", 0)):
            getattr(hall, call[0])(*call[1:])
        before = everything(hall)
        for value in ODD_VALUES + MIXED + (True, False, "1", [1], None, (1,)):
            if type(value) is int and value in (0, 1):
                continue
            refused(self, "deed", hall.offer, 0, value)
            refused(self, "move", hall.take, 0, value)
            refused(self, "move", hall.serve, 0, value)
            refused(self, "move", hall.serve, value, 0)
            for word in ("come", "twice", "lose", "ask"):
                refused(self, "number", getattr(hall, word), 0, value)
            with self.assertRaises(Unfit):
                hall.guest_shown(0, value)
            if type(value) is not int or not 0 <= value <= 200:
                with self.assertRaises(Unfit):
                    hall.watched_shown(0, value)
        with self.assertRaises(Unfit):
            hall.guest_shown(0, 1)
        with self.assertRaises(Unfit):
            hall.watched_shown(0, 201)
        self.assertEqual(everything(hall), before)

    def test_offers(self):
        hall = new_hall()
        for deed in (0, 2, -1):
            refused(self, "deed", hall.offer, 0, deed)
        refused(self, "deed", hall.offer, 1, 1)
        for many in range(4):
            self.assertEqual(hall.offer(0, 1), many + 1)
        refused(self, "way", hall.offer, 0, 1)
        refused(self, "deed", hall.offer, 0, 0)
        # One that is taken makes room for one more.
        hall.take(0, 0)
        self.assertEqual((hall.offer(0, 1), hall.on_the_way(0), hall.open_tries(0)), (6, (1,) * 4, (1,) * 5))
        refused(self, "way", hall.offer, 0, 1)

    def test_takes_and_serves(self):
        hall = new_hall()
        refused(self, "way", hall.take, 0, 0)
        refused(self, "way", hall.take, 0, None)
        hall.offer(0, 1)
        refused(self, "move", hall.take, 0, 1)
        refused(self, "way", hall.take, 1, 0)
        hall.take(0, 0)
        refused(self, "way", hall.take, 0, 0)
        # The lid is open: no toss; and the lid is no deed of the server.
        refused(self, "move", hall.serve, 0, 0)
        refused(self, "move", hall.serve, 1, 0)
        refused(self, "move", hall.serve, 2, 0)
        # A try that is refused is a move all the same.
        lamp = Hall(LAMP, silent_wire(LAMP), ())
        for call in (("offer", 0, 2), ("offer", 1, 1), ("take", 0, 0), ("take", 1, 0)):
            getattr(lamp, call[0])(*call[1:])
        self.assertEqual((lamp.play, lamp.state), (((2, 0), (1, 0)), (0, 0, 1)))

    def test_copies(self):
        hall = new_hall()
        self.assertEqual([hall.twice(0, 0), hall.road(0), hall.lose(0, 0), hall.lose(0, 0), hall.road(0)],
                         [1, (0, 0), 2, 3, ()])
        for word in ("come", "twice", "lose"):
            refused(self, "number", getattr(hall, word), 0, 0)
        refused(self, "number", hall.ask, 0, 1)
        hall.serve(0, 0)
        self.assertEqual([hall.ask(0, 1), hall.ask(0, 0), hall.road(0), hall.road(1)], [5, 6, (0, 1, 1), (0, 1)])
        refused(self, "number", hall.ask, 0, 2)
        refused(self, "number", hall.come, 0, 2)
        # What came already may come again, and changes nothing but the road.
        hall.come(0, 1)
        device = hall.device(0)
        hall.come(0, 1)
        self.assertEqual((hall.device(0), hall.road(0), hall.lacks(0)), (device, (0,), (0,)))

    def test_mending(self):
        hall = new_hall()
        refused(self, "whole", hall.mend, 0)
        for drawn in (0, 1, 0, 1):
            hall.serve(0, drawn)
        refused(self, "whole", hall.mend, 0)
        hall.come(0, 2)
        hall.come(0, 4)
        self.assertEqual((hall.lacks(0), hall.tick(0)), ((0, 1, 3), -1))
        hall.lose(0, 1)
        self.assertEqual((hall.mend(0), hall.tick(0), hall.lacks(0), hall.road(0)), (8, 4, (), (0, 3)))
        refused(self, "whole", hall.mend, 0)

    def test_guests(self):
        hall = new_hall()
        for many in range(4):
            self.assertEqual(hall.join(1), many + 1)
        refused(self, "guests", hall.join, 1)
        self.assertEqual((hall.join(0), hall.guests(1), hall.guests(0)), (5, ((0, (0,)),) * 4, ((0, (0,)),)))

    def test_joining_a_game_of_too_many_states(self):
        game = counting((6, 6, 6, 6, 6))
        hall = Hall(game, plain_wire(game), ())
        hall.offer(0, 0)
        before = (hall.version, hall.guests(0), hall.edits)
        too_many(self, lambda: hall.join(0))
        self.assertEqual((hall.version, hall.guests(0), hall.edits), before)
        for _ in range(119):
            hall.twice(1, 0)
        with self.assertRaises(TooManyEdits):
            hall.join(0)
        refused(self, "player", hall.join, 2)
        too_many(self, hall.accused)


class ManyEdits(unittest.TestCase):
    def test_a_hundred_and_twenty_and_one_more(self):
        hall = new_hall()
        for many in range(117):
            self.assertEqual(hall.serve(0, many % 2), many + 1)
        self.assertEqual((hall.offer(0, 1), hall.come(0, 5), hall.join(0), hall.version), (118, 119, 120, 120))
        before = everything(hall)
        for word, arguments in (("offer", (0, 1)), ("take", (0, 0)), ("serve", (0, 1)), ("come", (0, 7)),
                                ("twice", (0, 7)), ("lose", (0, 7)),
                                ("ask", (0, 7)), ("mend", (0,)), ("join", (0,))):
            with self.assertRaises(TooManyEdits):
                getattr(hall, word)(*arguments)
        # The words come ahead of it.
        for word, arguments, told in (("offer", (0, 0), "deed"), ("take", (1, 0), "way"), ("serve", (1, 1), "move"),
                                      ("come", (0, 5), "number"),
                                      ("twice", (0, 118), "number"), ("lose", (0, -1), "number"),
                                      ("ask", (0, 118), "number"), ("mend", (1,), "whole"),
                                      ("join", (2,), "player"), ("take", (0, 1), "move")):
            refused(self, told, getattr(hall, word), *arguments)
        self.assertEqual(everything(hall), before)
        with self.assertRaises(NothingToRedo):
            hall.redo()
        self.assertEqual((hall.undo(), hall.serve(0, 0), hall.undone), (119, 120, 0))
        with self.assertRaises(TooManyEdits):
            hall.join(0)

    def test_there_is_room_for_what_is_done_again(self):
        hall = new_hall()
        for _ in range(120):
            hall.twice(0, 0)
        for version in reversed(range(120)):
            self.assertEqual(hall.undo(), version)
        for version in range(120):
            self.assertEqual(hall.redo(), version + 1)


class Undoing(unittest.TestCase):
    def test_at_both_ends(self):
        hall = new_hall()
        for call, error in ((hall.undo, NothingToUndo), (hall.redo, NothingToRedo)):
            with self.assertRaises(error):
                call()
        hall.serve(0, 1)
        with self.assertRaises(NothingToRedo):
            hall.redo()
        self.assertEqual((hall.undo(), hall.undone, hall.version, hall.edits, hall.play), (0, 1, 0, (), ()))
        with self.assertRaises(NothingToUndo):
            hall.undo()
        self.assertEqual((hall.redo(), hall.undone, hall.edits), (1, 0, (("serve", 0, 1),)))

    def test_behind_a_new_edit_nothing_can_be_done_again(self):
        hall = new_hall()
        hall.serve(0, 1)
        hall.serve(0, 0)
        hall.undo()
        refused(self, "move", hall.serve, 1, 0)
        self.assertEqual(hall.undone, 1)
        hall.twice(0, 0)
        self.assertEqual((hall.undone, hall.edits), (0, (("serve", 0, 1), ("twice", 0, 0))))
        with self.assertRaises(NothingToRedo):
            hall.redo()

    def test_back_and_forth(self):
        for hall, _ in some_halls(603, 25):
            told = [everything(hall)]
            while hall.version:
                hall.undo()
                told.append(everything(hall))
            new = Hall(hall.game, hall.wire, hall.rule)
            self.assertTrue(new == hall)
            for back in reversed(told[:-1]):
                hall.redo()
                self.assertEqual(everything(hall), back)
            # Done again on a new hall, each edit leads to the same.
            for version, (word, *numbers) in enumerate(hall.edits):
                self.assertEqual(getattr(new, word)(*numbers), version + 1)
                self.assertEqual(everything(new)[:6], told[-2 - version][:6])
                self.assertEqual(everything(new)[8:], told[-2 - version][8:])
            self.assertEqual(new, hall)


class Equality(unittest.TestCase):
    def test_twins_go_their_own_ways(self):
        for hall, _ in some_halls(604, 25):
            if hall.version < 2:
                continue
            hall.undo()
            twin, before = hall.twin(), everything(hall)
            self.assertIs(type(twin), Hall)
            self.assertEqual((twin == hall, everything(twin)), (True, before))
            twin.twice(0, 0) if 0 in twin.road(0) else twin.ask(0, 0)
            self.assertEqual((twin == hall, everything(hall), hall.undone, twin.undone), (False, before, 1, 0))
            other = hall.twin()
            hall.redo()
            self.assertEqual(everything(other), before)
            other.redo()
            self.assertEqual((other == hall, everything(other)), (True, everything(hall)))

    def test_by_each_of_what_is_told(self):
        base = new_hall()
        for call in (("serve", 0, 1), ("offer", 0, 1)):
            getattr(base, call[0])(*call[1:])
        for call in (("serve", 0, 1), ("offer", 0, 1), ("take", 0, 0), ("come", 0, 0), ("come", 0, 1), ("come", 1, 0),
                     ("twice", 0, 0),
                     ("lose", 1, 1), ("ask", 1, 1), ("join", 0), ("join", 1)):
            other = base.twin()
            getattr(other, call[0])(*call[1:])
            self.assertFalse(other == base)
            self.assertTrue(other != base)
            other.undo()
            # What can be done again makes no halls unlike, nor by which edits they came to be as they are.
            self.assertTrue(other == base)
        other = base.twin()
        other.twice(0, 0)
        other.lose(0, 0)
        self.assertTrue(other == base)
        self.assertNotEqual(other.edits, base.edits)
        other.come(0, 0)
        again = base.twin()
        again.ask(0, 0)
        again.come(0, 0)
        again.lose(0, 0)
        self.assertTrue(other == again)

    def test_games_wires_and_rules(self):
        base = Hall(BOX, WIRE, ())
        self.assertTrue(base == Hall(BOX, WIRE, ()))
        for other in (Hall(BOX[:3] + (((YES, YES), (YES, YES)),), WIRE, ()), Hall(BOX, (FAIR, BLAB), ()),
                      Hall(BOX, WIRE, (WHETHER,))):
            self.assertFalse(base == other)
            self.assertTrue(base != other)

    def test_a_hall_equals_nothing_else(self):
        base = new_hall()
        for value in ODD_VALUES[:40] + ((BOX, WIRE, (WHETHER,)), Hall, Going(BOX, WIRE, (WHETHER,))):
            self.assertFalse(base == value)
            self.assertTrue(base != value)


class WhatHolds(unittest.TestCase):
    def test_what_is_shown_is_so(self):
        shown = 0
        for hall, going in some_halls(605, 60):
            for player in range(hall.game[0]):
                row, kept = hall.device(player)
                sent = hall.sent(player)
                self.assertEqual((row, kept), (sent[:len(row)], tuple((number, sent[number]) for number, _ in kept)))
                for told, tick in ((hall.shown(player), hall.tick(player)),
                                   (hall.ahead(player), max(going.got[player], default=0)),
                                   (hall.elder_shown(player), len(hall.play)),
                                   (hall.watched_shown(player, 1), len(hall.play))):
                    state = going.played[tick]
                    for value, right in zip(told or (), state):
                        self.assertIn(value, (None, right))
                        shown += value is not None
                if row:
                    self.assertIsNone(wrong_play(hall.game, hall.wire, (player,), tuple((letter,) for letter in row),
                                                 hall.shown(player)))
                if hall.lacks(player) and hall.version < 120:
                    twin = hall.twin()
                    twin.mend(player)
                    self.assertEqual(twin.lacks(player), ())
                all_come = hall.twin()
                while all_come.road(player) and all_come.version < 119:
                    all_come.come(player, all_come.road(player)[-1])
                if set(all_come.road(player)) == set() and set(range(len(sent))) <= set(going.got[player]) | set(hall.road(player)):
                    self.assertEqual(all_come.device(player), (sent, ()))
        self.assertGreater(shown, 200)

    def test_firm_results_are_those_that_come(self):
        firm = 0
        for hall, going in some_halls(606, 80):
            things = Things(hall.version)
            for player in range(hall.game[0]):
                told = hall.firm(player)
                if told is None or not told[0]:
                    continue
                tries, ahead = hall.open_tries(player), hall.tick(player)
                twin = hall.twin()
                for _ in range(20):
                    if not twin.on_the_way(player) or twin.version > 110:
                        break
                    here = sorted(going.moves(twin.state))
                    move = things.random.choice(here)
                    doer = twin.game[2][move[0]][0]
                    if doer is None:
                        twin.serve(*move)
                    elif twin.on_the_way(doer)[:1] == move[:1]:
                        twin.take(doer, move[1])
                states, done = going.through(twin.play), 0
                for tick in range(max(ahead, 0), len(twin.play)):
                    move = twin.play[tick]
                    if twin.game[2][move[0]][0] == player and done < len(told[0]):
                        self.assertEqual(move[0], tries[done])
                        right = ("refused",)
                        if going.moves(states[tick])[move][0]:
                            right = ("set", tuple((c, states[tick + 1][c]) for c, _ in twin.game[2][move[0]][3]))
                        self.assertIn(told[0][done], (None, right))
                        firm += told[0][done] is not None
                        done += 1
                        if done == len(told[0]):
                            sight = going.sight(player, states[tick + 1])
                            for item, seen in zip(told[1], sight):
                                self.assertIn(item, (None, "hidden" if seen is None else ("seen", seen)))
        self.assertGreater(firm, 10)

    def test_guests_and_elders(self):
        enough, not_more, right = 0, 0, 0
        for hall, _ in some_halls(607, 60):
            for player in range(hall.game[0]):
                elder = hall.elder_shown(player)
                gap = join_gap(hall.game, hall.wire, player, hall.rule)
                spill = join_spill(hall.game, hall.wire, player, hall.rule)
                for place in range(len(hall.guests(player))):
                    shown = hall.guest_shown(player, place)
                    self.assertTrue(all(item in (None, value) for item, value in zip(shown, hall.state)))
                    right += 1
                    if gap is None:
                        self.assertTrue(all(item is not None for item, its_like in zip(shown, elder)
                                            if its_like is not None))
                        enough += 1
                    if spill is None:
                        self.assertTrue(all(item is None for item, its_like in zip(shown, elder) if its_like is None))
                        not_more += 1
        self.assertGreater(min(enough, not_more, right), 5)

    def test_watchers_behind_the_reach_are_elders(self):
        for hall, _ in some_halls(608, 40):
            for player in range(hall.game[0]):
                least = reach(hall.game, hall.wire, player)
                if least is not None:
                    for lag in (least, least + 1, 200):
                        self.assertEqual(hall.watched_shown(player, lag), hall.elder_shown(player))

    def test_just_wires_send_alike_what_is_seen_alike(self):
        alike = 0
        for seed in range(12):
            halls = []
            for name in ("coin", "lamps"):
                game = known_game(name)
                wire = plain_wire(game)
                for drawn in range(4):
                    things, going, hall = Things(620 + seed), Going(game, wire, ()), Hall(game, wire, ())
                    things.random.seed(seed * 10 + drawn // 2)
                    for _ in range(12):
                        call = some_edit(things.random, going)
                        if call[0] in ("serve", "take") and drawn % 2:
                            call = call[:2] + (1,) if type(call[2]) is int else call
                        try:
                            going.edit(*call)
                        except Wrong:
                            continue
                        getattr(hall, call[0])(*call[1:])
                    halls.append(hall)
            for one in halls:
                for other in halls:
                    for player in range(one.game[0] if one.game == other.game else 0):
                        self.assertTrue(is_just(one.game, one.wire, player))
                        if view(one.game, player, one.play) == view(one.game, player, other.play):
                            self.assertEqual(one.sent(player), other.sent(player))
                            alike += one.play != other.play
        self.assertGreater(alike, 5)

    def test_known_games(self):
        for seed, name in enumerate(("bid", "cards", "coin", "cups", "door", "heaps", "host", "lamps")):
            things, game = Things(630 + seed), known_game(name)
            hall, going = Hall(game, plain_wire(game), ()), Going(game, plain_wire(game), ())
            for _ in range(25):
                call = some_edit(things.random, going)
                try:
                    going.edit(*call)
                except Wrong as wrong:
                    refused(self, wrong.args[0], getattr(hall, call[0]), *call[1:])
                else:
                    getattr(hall, call[0])(*call[1:])
            for player in range(game[0]):
                self.assertEqual(hall.shown(player), going.shown(player))
                self.assertEqual(hall.ahead(player), going.ahead(player))
                self.assertEqual(hall.firm(player), going.firm(player))
                self.assertEqual(hall.elder_shown(player), going.elder_shown(player))
            try:
                self.assertEqual(hall.accused(), ())
            except TooMany:
                self.fail()


if __name__ == "__main__":
    unittest.main()

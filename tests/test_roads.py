"""Devices that take what comes, and road runs of all events, done where they can be and where they cannot."""

import unittest

from knownplay.bounds import MAX_EVENTS, MAX_NUMBER
from knownplay.knowngames import known_game
from knownplay.knownwires import plain_wire
from knownplay.plays import play_error
from knownplay.roads import device_error, gap_row, lacking, mending, road_end, run_error, taken
from knownplay.wires import heard_by
from tests.knowing import MIXED, some_knowing
from tests.model import Model
from tests.test_classes import DIE, KEEN
from tests.things import ODD_VALUES, Things

NEW = ((), ())


class Box:
    """A device that keeps all that came in one dict."""

    def __init__(self):
        self.came = {}

    def take(self, number, letter):
        """Takes a copy; only the first one of each number counts."""
        self.came.setdefault(number, letter)

    def device(self):
        """The device as the document has it."""
        many = 0
        while many in self.came:
            many += 1
        kept = tuple((number, letter) for number, letter in sorted(self.came.items(), key=lambda item: item[0])
                     if number > many)
        return (tuple(self.came[number] for number in range(many)), kept)


class Devices(unittest.TestCase):
    def test_copies_late_doubled_out_of_order_and_never(self):
        things = Things(381)
        for _ in range(300):
            device, box = NEW, Box()
            for _ in range(things.random.randint(0, 25)):
                number = things.random.randint(0, things.random.choice((3, 8, 15, 40)))
                letter = things.random.choice(MIXED + ((number,),))
                ahead, before = device, repr(device)
                device = taken(device, number, letter)
                self.assertEqual(repr(ahead), before)
                box.take(number, letter)
                self.assertEqual(repr(device), repr(box.device()))
                self.assertIsNone(device_error(device))
                most = max(box.came)
                known = len(device[0])
                lacks = tuple(n for n in range(most) if n not in box.came)
                self.assertEqual(lacking(device), lacks)
                self.assertEqual(bool(lacks), bool(device[1]))
                wanted = tuple(box.came.get(n) for n in range(max(most + 1, known)))
                self.assertEqual(repr(gap_row(device)), repr(wanted))
                self.assertEqual(mending(device), tuple(("ask", n) for n in lacks) + tuple(("come", n) for n in lacks))

    def test_what_is_there_is_not_taken_anew(self):
        device = ((1, 2), ((3, "c"), (5, "e")))
        for number in (0, 1, 3, 5):
            self.assertEqual(taken(device, number, "other"), device)
        self.assertEqual(taken(device, 2, "b"), ((1, 2, "b", "c"), ((5, "e"),)))
        self.assertEqual(taken(device, 4, "d"), ((1, 2), ((3, "c"), (4, "d"), (5, "e"))))
        self.assertEqual(taken(device, MAX_NUMBER, "z"), ((1, 2), ((3, "c"), (5, "e"), (MAX_NUMBER, "z"))))
        self.assertEqual((lacking(device), gap_row(device)), ((2, 4), (1, 2, None, "c", None, "e")))
        self.assertEqual((lacking(NEW), gap_row(NEW), mending(NEW)), ((), (), ()))
        self.assertEqual(gap_row(((7,), ())), (7,))
        self.assertEqual(taken(NEW, 0, None), ((None,), ()))
        far = taken(NEW, MAX_NUMBER, ())
        self.assertEqual((len(gap_row(far)), lacking(far)), (MAX_NUMBER + 1, tuple(range(MAX_NUMBER))))

    def test_letters_may_be_any_value(self):
        for value in ODD_VALUES + MIXED:
            device = taken(taken(NEW, 1, value), 0, value)
            self.assertEqual(repr(device), repr(((value, value), ())))
            self.assertIsNone(device_error(((value, value), ((3, value),))))

    def test_a_device_with_a_fault_in_each_place(self):
        row, kept = ((1,), (2,)), ((3, (0,)), (4, (1,)), (9, (2,)))
        self.assertIsNone(device_error((row, kept)))
        for k in range(3):
            least = (3, 4, 5)[k]
            bad = [None, (), (kept[k][0],), kept[k] + (0,), list(kept[k]), (True, ()), (None, ()), ("3", ()), (-1, ()),
                   (least - 1, ()), (0, ()), (MAX_NUMBER + 1, ()), ((3,), ()), 7, "ab", {}]
            for item in bad:
                self.assertEqual(device_error((row, kept[:k] + (item,) + kept[k + 1:])), ("kept", k), item)
                self.assertEqual(device_error((row, kept[:k] + (item, item))), ("kept", k))
        self.assertEqual(device_error((row, ((2, ()),))), ("kept", 0))
        self.assertEqual(device_error((row, ((MAX_NUMBER, ()),))), None)
        self.assertEqual(device_error(((), ((0, ()),))), ("kept", 0))
        self.assertEqual(device_error((row, kept[::-1])), ("kept", 1))
        self.assertEqual(device_error((row, ((3, ()), (3, ())))), ("kept", 1))

    def test_values_without_form(self):
        for value in ODD_VALUES + MIXED + ([(), ()], ((), (), ()), ((),), ([], ()), ((), []), (None, ()), ((), None), "ab"):
            rows = isinstance(value, tuple) and len(value) == 2 and all(isinstance(item, tuple) for item in value)
            if not rows:
                self.assertEqual(device_error(value), "form", value)


class Run:
    """A road run by lists."""

    def __init__(self, game, wire, player):
        self.model, self.rule = Model(game), wire[player]
        self.play, self.road, self.box = [], [0], Box()
        self.player = player

    def letters(self):
        """The row that was sent."""
        return self.model.row(self.rule, tuple(self.play))

    def can(self, event):
        """Whether an event, a tuple of a word and numbers, can be there."""
        if event[0] == "tick":
            return event[1:] in self.model.moves(self.model.through(self.play)[-1])
        return event[0] == "ask" or event[1] in self.road

    def do(self, event):
        """Does an event that can be there."""
        if event[0] == "tick":
            self.play.append(event[1:])
            self.road.append(len(self.play))
        elif event[0] == "ask":
            self.road += [event[1]] * (event[1] <= len(self.play))
        elif event[0] == "twice":
            self.road.append(event[1])
        else:
            self.road.remove(event[1])
            if event[0] == "come":
                self.box.take(event[1], self.letters()[event[1]])

    def end(self):
        """What stands at the end."""
        return (tuple(self.play), tuple(sorted(self.road)), self.box.device())

    def some_event(self, random):
        """Some event that can be there, or cannot."""
        word = random.choice(("tick", "tick", "tick", "come", "come", "lost", "twice", "ask"))
        if word == "tick":
            moves = sorted(self.model.moves(self.model.through(self.play)[-1]))
            if moves and random.random() < 0.95:
                return (word,) + random.choice(moves)
            return (word, random.randint(0, 3), random.randint(0, 3))
        if self.road and random.random() < 0.95:
            return (word, random.choice(self.road))
        return (word, random.randint(0, len(self.play) + 3))


class Runs(unittest.TestCase):
    def test_of_many_games(self):
        things = Things(382)
        kinds = set()
        for knowing in some_knowing(383, 60):
            for player in range(knowing.game[0]):
                arguments = (knowing.game, knowing.wire, player)
                run, events = Run(*arguments), []
                for _ in range(30):
                    event = run.some_event(things.random)
                    can = run.can(event)
                    kinds.add((event[0], can))
                    wanted = None if can else ("event", len(events))
                    self.assertEqual(run_error(*arguments, tuple(events) + (event,)), wanted)
                    self.assertEqual(run_error(*arguments, tuple(events) + (event, None)),
                                     wanted or ("event", len(events) + 1))
                    if can:
                        run.do(event)
                        events.append(event)
                self.assertEqual(road_end(*arguments, tuple(events)), run.end())
                self.check_device(arguments, tuple(events))
        self.assertEqual(len(kinds), 9)

    def check_device(self, arguments, run):
        """Checks what holds of the device behind a run, and of its mending."""
        play, road, device = road_end(*arguments, run)
        sent = heard_by(*arguments, play)
        row, kept = device
        self.assertEqual(row, sent[:len(row)])
        self.assertTrue(all(letter == sent[number] for number, letter in kept))
        self.assertIsNone(device_error(device))
        mended = run + mending(device)
        if len(mended) <= MAX_EVENTS:
            self.assertIsNone(run_error(*arguments, mended))
            end = road_end(*arguments, mended)
            self.assertEqual((end[1], lacking(end[2]), end[2][1]), (road, (), ()))
            self.assertEqual(end[2][0], sent[:max([number for number, _ in kept], default=len(row) - 1) + 1])

    def test_if_each_number_comes_once_the_row_is_all_that_was_sent(self):
        things = Things(384)
        for name in ("cups", "lamps", "door", "heaps"):
            game = known_game(name)
            play = Model(game).some_play(things.random, 150)
            numbers = list(range(len(play) + 1))
            things.random.shuffle(numbers)
            run = tuple(("tick",) + move for move in play) + tuple(("come", number) for number in numbers)
            for player in range(2):
                self.assertIsNone(run_error(game, plain_wire(game), player, run))
                end = road_end(game, plain_wire(game), player, run)
                self.assertEqual(end, (play, (), (heard_by(game, plain_wire(game), player, play), ())))

    def test_400_events_and_401(self):
        for word in ("twice", "ask"):
            run = ((word, 0),) * MAX_EVENTS
            self.assertIsNone(run_error(DIE, KEEN, 0, run))
            self.assertEqual(road_end(DIE, KEEN, 0, run), ((), (0,) * 401, NEW))
            self.assertEqual(run_error(DIE, KEEN, 0, run + run[:1]), "form")
            self.assertEqual(run_error(DIE, KEEN, 0, run[:-1] + (("come", 1),)), ("event", 399))
            self.assertEqual(run_error(DIE, KEEN, 0, (("come", 1),) + run), "form")
        ticks = (("tick", 2, 0),) * MAX_EVENTS
        self.assertEqual(road_end(DIE, KEEN, 0, ticks)[1:], (tuple(range(401)), NEW))

    def test_events_that_are_none(self):
        bad = [None, (), "tick", ("tick",), ("tick", 0), ("tick", 0, 0, 0), ["tick", 0, 0], ("tick", True, 0), ("tick", 0, True),
               ("tick", (0, 0)), ("tick", 3, 0), ("tick", 0, 2), ("tick", -1, 0), ("tick", None, None), ("come",), ("come", 0, 0),
               ("come", False), ("come", None), ("come", "0"), ("come", (0,)), ("come", -1), ("come", 1), ("lost", 1),
               ("twice", 1), ("lost", True), ("twice", False), ("ask",), ("ask", -1), ("ask", True), ("ask", None), ("ask", 0, 0),
               ("ask", "0"), ("Come", 0), ("sent", 0), (None, 0), (0, 0), (["come"], 0), ["come", 0], {}, 0, ("come", 10 ** 399)]
        for event in bad + list(ODD_VALUES) + list(MIXED):
            for ahead in ((), (("come", 0),), (("ask", 0), ("twice", 0))):
                self.assertEqual(run_error(DIE, KEEN, 0, ahead + (event,)), ("event", len(ahead)), event)
                self.assertEqual(run_error(DIE, KEEN, 0, ahead + (event, ("ask", 0))), ("event", len(ahead)))
        for event in (("ask", 10 ** 399), ("ask", 1), ("ask", 400)):
            self.assertIsNone(run_error(DIE, KEEN, 0, (event,)))
            self.assertEqual(road_end(DIE, KEEN, 0, (event,)), ((), (0,), NEW))
        for value in [value for value in ODD_VALUES + MIXED if not isinstance(value, tuple)]:
            self.assertEqual(run_error(DIE, KEEN, 0, value), "form")
        self.assertIsNone(run_error(DIE, KEEN, 0, ()))

    def test_behind_the_end_of_a_game_there_is_no_tick(self):
        over = (2, ((2, 0),), ((None, 1, ("same", ("cell", 0), ("is", 0)), ((0, ("is", 1)),), ()),), ((("yes",),),) * 2)
        self.assertIsNone(play_error(over, ((0, 0),)))
        run = (("tick", 0, 0), ("come", 1), ("come", 0))
        self.assertEqual(run_error(over, ((), ()), 0, run + (("tick", 0, 0),)), ("event", 3))
        self.assertEqual(road_end(over, ((), ()), 1, run), (((0, 0),), (), (((), ()), ())))


if __name__ == "__main__":
    unittest.main()

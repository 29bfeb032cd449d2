"""Roads on which letters are late, doubled or lost, and devices that take what comes."""

from knownplay.bounds import MAX_EVENTS, MAX_NUMBER
from knownplay.games import first_state
from knownplay.plays import step
from knownplay.values import is_count, is_row, is_whole
from knownplay.wires import heard_by


def device_error(value):
    """None if value, any value, is a device; otherwise what is wrong with it."""
    if not is_row(value, 2, 2) or not isinstance(value[0], tuple) or not isinstance(value[1], tuple):
        return "form"
    least = len(value[0]) + 1
    for k, item in enumerate(value[1]):
        if not is_row(item, 2, 2) or not is_whole(item[0], least, MAX_NUMBER):
            return ("kept", k)
        least = item[0] + 1
    return None


def taken(device, number, letter):
    """The device behind a copy of letter, any value, with this number."""
    row, kept = device
    if number > len(row):
        before = tuple([item for item in kept if item[0] < number])
        behind = kept[len(before):]
        if behind and behind[0][0] == number:
            return device
        return (row, (*before, (number, letter), *behind))
    if number < len(row):
        return device
    more = [letter]
    for other, its_letter in kept:
        if other != number + len(more):
            break
        more.append(its_letter)
    return ((*row, *more), kept[len(more) - 1:])


def lacking(device):
    """The ascending tuple of the numbers that device knows to lack."""
    row, kept = device
    if not kept:
        return ()
    numbers = {number: True for number, _ in kept}
    return tuple([number for number in range(len(row), kept[-1][0]) if number not in numbers])


def gap_row(device):
    """What device has got in one row, with None for what lacks."""
    row, kept = device
    gaps = list(row)
    for number, letter in kept:
        gaps.extend([None] * (number - len(gaps)))
        gaps.append(letter)
    return tuple(gaps)


class Road:
    """The road to one player: the game's state, the moves that were done, and the copies that lie on the road."""

    def __init__(self, game):
        self.game = game
        self.state = first_state(game)
        self.play = []
        self.copies = {0: 1}
        self.arrived = []

    def happen(self, event):
        """Lets event, any value, be; returns whether it is one that can be there."""
        if not isinstance(event, tuple) or not event or not isinstance(event[0], str):
            return False
        if event[0] == "tick":
            return self.tick(event[1:])
        if event[0] not in ("come", "lost", "twice", "ask") or len(event) != 2 or not is_count(event[1]):
            return False
        return self.handled(event[0], event[1])

    def tick(self, move):
        """Lets move, any value, be done; returns whether it is one that is there."""
        found = step(self.game, self.state, move)
        if found is None:
            return False
        self.state = found[1]
        self.play.append(move)
        self.copies[len(self.play)] = 1
        return True

    def handled(self, word, number):
        """Lets happen what word tells to a copy of this number; returns whether it can."""
        if word == "ask":
            if number in self.copies:
                self.copies[number] += 1
            return True
        if self.copies.get(number, 0) == 0:
            return False
        self.copies[number] += 1 if word == "twice" else -1
        if word == "come":
            self.arrived.append(number)
        return True


def run_error(game, wire, player, value):
    """None if value, any value, is a road run; otherwise what is wrong with it."""
    if not is_row(value, 0, MAX_EVENTS):
        return "form"
    road = Road(game)
    for k, event in enumerate(value):
        if not road.happen(event):
            return ("event", k)
    return None


def road_end(game, wire, player, run):
    """The play behind run, the numbers on the road, each as often as copies of it lie there, and the device."""
    road = Road(game)
    for event in run:
        road.happen(event)
    play = tuple(road.play)
    # What is sent stays as it is, so the device can take it from the end of the run.
    row = heard_by(game, wire, player, play)
    device = ((), ())
    for number in road.arrived:
        device = taken(device, number, row[number])
    on_road = [number for number in sorted(list(road.copies)) for _ in range(road.copies[number])]
    return (play, tuple(on_road), device)


def mending(device):
    """The events by which device gets all that it knows to lack."""
    numbers = lacking(device)
    asks = [("ask", number) for number in numbers]
    return (*asks, *[("come", number) for number in numbers])

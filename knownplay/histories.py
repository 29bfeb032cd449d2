"""Histories: how the pieces of deeds are done one behind another, and which whole deeds come to the same."""

from knownplay.cuts import meet, pieces
from knownplay.plays import can_be_done, state_behind
from knownplay.terms import worth
from knownplay.values import is_order, is_pair, is_row, is_whole


def pieces_of(game, owners, some):
    """A list of the pieces of the deed of each occurrence of some; Unfit() if a deed is not cut."""
    return [pieces(game, owners, deed) for deed, _ in some]


def history_error(game, owners, some, value):
    """None if value, any value, is a history of some; otherwise what is wrong with it."""
    cut = pieces_of(game, owners, some)
    if not isinstance(value, tuple) or not all([is_pair(item) for item in value]):
        return "form"
    # How many pieces of each occurrence stand ahead: just the next one is let.
    done = [0] * len(cut)
    for k, (occurrence, piece) in enumerate(value):
        if not is_whole(occurrence, 0, len(cut) - 1):
            return ("item", k)
        if piece != done[occurrence] or piece >= len(cut[occurrence]):
            return ("item", k)
        done[occurrence] += 1
    lacking = [(k, done[k]) for k, own in enumerate(cut) if done[k] < len(own)]
    return ("lacks", lacking[0]) if lacking else None


class Doing:
    """An occurrence that is done by pieces: what these have read so far, and whether it is done."""

    def __init__(self, game, occurrence):
        self.game = game
        self.deed, self.drawn = occurrence
        self.cells_read = [0] * len(game[1])
        self.done = False

    def ask_guard(self, cells):
        """Looks at the guard, in cells as they are now."""
        self.done = can_be_done(self.game, tuple(cells), self.deed)

    def go_on(self, piece, cells):
        """Does a piece, if the deed is done: reads what it asks, and sets cells."""
        if not self.done:
            return
        _, asks, sets = piece
        for cell in asks:
            self.cells_read[cell] = cells[cell]
        # A piece asks cells of its own shard and of lesser ones, which it and the earlier ones have read.
        moment = (tuple(self.cells_read), tuple(self.cells_read), 0, self.drawn, False)
        for cell, term in self.game[2][self.deed][3]:
            if cell in sets:
                cells[cell] = worth(term, moment) % self.game[1][cell][0]


def done_by_pieces(game, owners, state, some, history):
    """The pair of the state behind history, and of whether each occurrence of some is done."""
    cut = pieces_of(game, owners, some)
    doings = [Doing(game, occurrence) for occurrence in some]
    cells = list(state)
    for occurrence, piece in history:
        if piece == 0:
            doings[occurrence].ask_guard(cells)
        doings[occurrence].go_on(cut[occurrence][piece], cells)
    return (tuple(cells), tuple([doing.done for doing in doings]))


def done_whole(game, state, some, order):
    """The like pair for the whole deeds of some, one behind another in order."""
    done = [False] * len(some)
    for occurrence in order:
        deed = some[occurrence][0]
        if can_be_done(game, state, deed):
            done[occurrence] = True
            state = state_behind(game, state, some[occurrence])
    return (state, tuple(done))


def follows(game, owners, some, history):
    """The ascending tuple of the pairs of occurrences, a piece of one of which stands ahead of one that it meets."""
    cut = pieces_of(game, owners, some)
    found = set()
    for place, (one, piece) in enumerate(history):
        for other, behind in history[place + 1:]:
            if one != other and meet(cut[one][piece], cut[other][behind]):
                found.add((one, other))
    return tuple(sorted(found))


def ordered_so(many, pairs):
    """A list of the numbers below many in which the first of each of pairs stands ahead of the second one.

    If there is none it has those alone ahead of which nothing has to stand but others of it.
    """
    order = []
    left = list(range(many))
    while left:
        behind = [other for one, other in pairs if one in left]
        free = [number for number in left if number not in behind]
        if not free:
            return order
        order.append(free[0])
        left.remove(free[0])
    return order


def ring_of(game, owners, some, history):
    """A ring of history; None if there is none."""
    pairs = follows(game, owners, some, history)
    order = ordered_so(len(some), pairs)
    left = [number for number in range(len(some)) if number not in order]
    if not left:
        return None
    # Each that is left follows one that is left: so going back meets one anew.
    way = [left[0]]
    while way[-1] not in way[:-1]:
        way.append([one for one, other in pairs if other == way[-1] and one in left][0])
    ring = way[way.index(way[-1]) + 1:]
    return tuple(reversed(ring))


def order_of(game, owners, some, history):
    """An order of some that goes with history; None if there is none."""
    order = ordered_so(len(some), follows(game, owners, some, history))
    return tuple(order) if len(order) == len(some) else None


def ring_error(game, owners, some, history, value):
    """None if value, any value, is a ring of history; otherwise what is wrong with it."""
    pairs = follows(game, owners, some, history)
    if not is_row(value, 2, len(some)) or not all([is_whole(item, 0, len(some) - 1) for item in value]):
        return "form"
    if len(set(value)) < len(value):
        return "form"
    for k, item in enumerate(value):
        if (item, value[k + 1 - len(value)]) not in pairs:
            return ("follows", k)
    return None


def order_error(game, owners, some, history, value):
    """None if value, any value, is an order of some that goes with history; otherwise what is wrong with it."""
    pairs = follows(game, owners, some, history)
    if not is_order(value, len(some)):
        return "form"
    for one, other in pairs:
        if value.index(one) > value.index(other):
            return ("follows", (one, other))
    return None

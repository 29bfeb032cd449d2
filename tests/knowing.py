"""What can be known, told in a second way: by all plays of so many ticks, and by lots of states; for the tests."""

import functools

from knownplay.errors import TooMany
from tests.model import Model
from tests.things import YES, Things

LIMIT = 3000
MIXED = (None, True, False, 0, 1, -1, 7, 10 ** 399, "", "form", "a\nb", (), ((),), (None,), (0,), (True,), ((0,),),
         (((0,),),), (((True,),),), ((None,),), [], [0], [()], [[]], {}, {0: ()}, {(): None}, ((), ()), ((), (), ()),
         (0, 0), ("", ""), ((0, 0), (0, 0)), ((), (), (), ()), ("ring", (), (), (), ()), ("ranks", (), ()), (0, (), ()),
         ([0], [0]), ({}, {}), ((0, 0, 0),) * 3, (((), ()),), ((((0,),),),), (((0,), (0,)),), tuple(range(200)),
         functools.reduce(lambda value, _: (value,), range(39), None),
         functools.reduce(lambda value, _: [value], range(39), None))


def letter_key(item):
    """What puts letters, letters of ears and rows in their order."""
    if isinstance(item, tuple):
        return tuple(map(letter_key, item))
    return (0, 0) if item is None else (1, item)


def in_order(letters):
    """The ascending tuple of letters, each once."""
    return tuple(sorted(set(letters), key=letter_key))


def as_set(states):
    """The ascending tuple of states."""
    return tuple(sorted(set(states)))


def sure_of(some):
    """What is sure in a lot of states."""
    columns = [set(column) for column in zip(*some)]
    return tuple(min(column) if len(column) == 1 else None for column in columns)


def surer(some, other):
    """Whether a cell is sure in some and not in other."""
    return any(item is not None and its_like is None for item, its_like in zip(sure_of(some), sure_of(other)))


class Knowing(Model):
    """One game, its wire, and some ears."""

    def __init__(self, game, wire, ears):
        super().__init__(game)
        self.wire, self.ears, self.kept, self.kept_after = wire, tuple(ears), {}, {}

    def first_letters(self):
        """The ears' letters of the beginning."""
        moment = (self.first, self.first, len(self.game[2]), 0, True)
        return tuple(self.letter(self.wire[ear], moment) for ear in self.ears)

    def moves_heard(self, state):
        """The triples of a move, the ears' letters of it, and the state behind."""
        if state not in self.kept:
            found = []
            for (deed, drawn), (done, behind) in sorted(self.moves(state).items()):
                moment = (behind, state, deed, drawn, done)
                found.append(((deed, drawn), tuple(self.letter(self.wire[ear], moment) for ear in self.ears), behind))
            self.kept[state] = found
        return self.kept[state]

    def plays_heard(self, ticks, most=4000):
        """A list of the triples of a play of so many ticks, the row heard, and the states it goes through."""
        layer = [((), (self.first_letters(),), (self.first,))]
        for _ in range(ticks):
            layer = [(play + (move,), row + (letters,), come + (behind,)) for play, row, come in layer
                     for move, letters, behind in self.moves_heard(come[-1])]
            if len(layer) > most:
                return []
        return layer

    def known_by_plays(self, ticks):
        """A dict of the rows heard by plays of so many ticks: the set behind them."""
        found = {}
        for _, row, come in self.plays_heard(ticks):
            found.setdefault(row, set()).add(come[-1])
        return {row: as_set(some) for row, some in found.items()}

    def next_heard(self, some):
        """The letters that can come next in a set, ascending."""
        return in_order(letters for state in some for _, letters, _ in self.moves_heard(state))

    def after(self, some, letters):
        """The set behind letters."""
        if (some, letters) not in self.kept_after:
            self.kept_after[some, letters] = as_set({behind for state in some
                                                     for _, told, behind in self.moves_heard(state) if told == letters})
        return self.kept_after[some, letters]

    def sets_behind(self, some):
        """The sets behind each of the letters that can come next."""
        return [self.after(some, letters) for letters in self.next_heard(some)]

    def all_after(self, some):
        """The set behind any move."""
        return as_set({behind for state in some for _, _, behind in self.moves_heard(state)})

    def alone(self):
        """The set of the first state."""
        return (self.first,)

    def table(self, most=LIMIT):
        """The table of sets in its order, or None if it has more items than most."""
        order, leads = [self.alone()], []
        for some in order:
            row = []
            for letters in self.next_heard(some):
                behind = self.after(some, letters)
                if behind not in order:
                    order.append(behind)
                row.append((letters, order.index(behind)))
            leads.append((some, tuple(row)))
            if sum(map(len, order)) > most:
                return None
        return tuple(leads)


def far_from(first, steps, most=20000):
    """A dict of all things to which steps lead: of each how few steps lead there; None if there are more than most."""
    found = {first: 0}
    todo = [first]
    for thing in todo:
        for behind in steps(thing):
            if behind not in found:
                found[behind] = found[thing] + 1
                todo.append(behind)
        if len(found) > most:
            return None
    return found


def some_knowing(seed, many, most=120):
    """So many Knowings of tiny games, with one ear or more, of no more items of the table of sets than most.

    Few of them have so few sets that there is little to know.
    """
    things = Things(seed)
    found = []
    while len(found) < many:
        game = things.tiny_game()
        knowing = Knowing(game, things.tiny_wire(game), things.ears(game))
        table = knowing.table(most)
        if table is None:
            continue
        little = len(table) <= 2 or max(len(some) for some, _ in table) == 1
        if not little or things.random.random() < 0.15:
            found.append(knowing)
    return found


def counting(sizes, last=None, hidden=0):
    """A game of cells that count one by one, of a state for each way to fill them, all seen by the player 0.

    If last is told, one more cell is set in that state, once and for all. So many hidden deeds of the server do nothing.
    """
    cells = tuple((size, 0) for size in sizes)
    counts = ("same", ("cell", len(sizes)), ("is", 0)) if last is not None else YES
    deeds = [(0, 1, counts, ((c, ("sum", ("cell", c), ("is", 1))),), (0,)) for c in range(len(sizes))]
    if last is not None:
        cells += ((2, 0),)
        same = counts
        for c, value in enumerate(last):
            same = ("both", ("same", ("cell", c), ("is", value)), same)
        deeds.append((0, 1, same, ((len(sizes), ("is", 1)),), (0,)))
    deeds += [(None, 1, YES, (), ())] * hidden
    return (2, cells, tuple(deeds), ((YES,) * len(cells), (("not", YES),) * len(cells)))


def too_many(test, call, limit=LIMIT):
    """Lets test fail if call does not raise TooMany(limit)."""
    with test.assertRaises(TooMany) as caught:
        call()
    test.assertEqual(vars(caught.exception), {"limit": limit})

"""Deeds in pieces, their histories, rings, orders and sortings, told in a second way; for the tests."""

import itertools

from tests.model import told
from tests.things import PART_KINDS, YES, Things

STORE_YES, C0, C1 = YES, ("cell", 0), ("cell", 1)
PUT = (0, 1, ("below", C0, ("is", 3)), ((0, ("sum", C0, ("is", 1))), (1, C0)), (0, 1))
LIFT = (1, 1, YES, ((1, ("sum", C1, ("is", 1))),), (0, 1))
BACK = (1, 1, ("same", C1, ("is", 0)), ((0, ("is", 1)),), (0, 1))
COPY, IDLE = (0, 1, YES, ((2, C0),), (0, 1)), (1, 1, YES, (), (0, 1))
STORE = (2, ((4, 0),) * 3, (PUT, LIFT, BACK, COPY, IDLE), ((YES,) * 3,) * 2)
OWNERS = (0, 1, 1)


def cells_asked(thing):
    """The cells that a term or a condition asks."""
    if thing[0] in ("cell", "was"):
        return {thing[1]}
    return set().union(*[cells_asked(part) for part in thing[1:] if thing[0] in PART_KINDS])


def touched(deed):
    """The cells that a deed asks, and those that it sets."""
    asks = cells_asked(deed[2]).union(*[cells_asked(term) for _, term in deed[3]])
    return asks, {cell for cell, _ in deed[3]}


def shards(owners, deed):
    """The shards of a deed, ascending."""
    asks, sets = touched(deed)
    return sorted({owners[cell] for cell in asks | sets}) or [0]


def is_cut(owners, deed):
    """Whether owners cut a deed."""
    first = shards(owners, deed)[0]
    if any(owners[cell] != first for cell in cells_asked(deed[2])):
        return False
    return not any(owners[asked] > owners[cell] for cell, term in deed[3] for asked in cells_asked(term))


def pieces_of(owners, deed):
    """The pieces of a deed."""
    asks, sets = touched(deed)
    return tuple((shard,) + tuple(tuple(sorted(c for c in cells if owners[c] == shard)) for cells in (asks, sets))
                 for shard in shards(owners, deed))


def meet(piece, other):
    """Whether two pieces of unlike occurrences meet."""
    (shard, asks, sets), (its_shard, its_asks, its_sets) = piece, other
    return shard == its_shard and bool(set(sets) & set(its_asks + its_sets) or set(its_sets) & set(asks))


def histories(cut):
    """All histories of occurrences with these pieces."""
    places = [k for k, own in enumerate(cut) for _ in own]
    for row in sorted(set(itertools.permutations(places))):
        yield tuple((k, row[:at].count(k)) for at, k in enumerate(row))


def some_history(random, cut):
    """A history, drawn."""
    row = [k for k, own in enumerate(cut) for _ in own]
    random.shuffle(row)
    return tuple((k, row[:at].count(k)) for at, k in enumerate(row))


def go_through(game, owners, state, some, history):
    """The cells behind a history, and which occurrences are done: each piece reads, then sets, as the document tells."""
    cells, read, done = dict(enumerate(state)), [{} for _ in some], [None for _ in some]
    for k, number in history:
        deed, drawn = game[2][some[k][0]], some[k][1]
        _, asks, sets = pieces_of(owners, deed)[number]
        if number == 0:
            done[k] = bool(told(deed[2])(cells, cells, 0, 0, False))
        if done[k]:
            read[k].update({cell: cells[cell] for cell in asks})
            new = {cell: told(term)(read[k], read[k], 0, drawn, False) for cell, term in deed[3] if cell in sets}
            cells.update({cell: value % game[1][cell][0] for cell, value in new.items()})
    return tuple(cells[cell] for cell in range(len(state))), tuple(done)


def go_whole(game, state, some, order):
    """The state behind whole deeds in an order, and which are done."""
    done = [None for _ in some]
    for k in order:
        deed, drawn = game[2][some[k][0]], some[k][1]
        done[k] = bool(told(deed[2])(state, state, 0, 0, False))
        if done[k]:
            new = {cell: told(term)(state, state, 0, drawn, False) % game[1][cell][0] for cell, term in deed[3]}
            state = tuple(new.get(cell, value) for cell, value in enumerate(state))
    return state, tuple(done)


def following(cut, history):
    """The pairs of occurrences a piece of one of which stands ahead of one that it meets."""
    return tuple(sorted({(i, j) for (i, p), (j, q) in itertools.combinations(history, 2) if i != j
                         and meet(cut[i][p], cut[j][q])}))


def orders_with(many, pairs):
    """All orders that go with such pairs."""
    return [order for order in itertools.permutations(range(many))
            if all(order.index(i) < order.index(j) for i, j in pairs)]


def mixed_rings(cut):
    """All mixed rings of occurrences with these pieces."""
    found = []
    for many in range(2, len(cut) + 1):
        for row in itertools.permutations(range(len(cut)), many):
            if row[0] != min(row):
                continue
            for ends in itertools.product(*[itertools.product(range(len(cut[k])), repeat=2) for k in row]):
                ring = tuple((k, a, b) for k, (a, b) in zip(row, ends))
                around = ring[1:] + ring[:1]
                if all(meet(cut[k][b], cut[m][a]) for (k, _, b),
                       (m, a, _) in zip(ring, around)) and any(a != b for _, a, b in ring):
                    found.append(ring)
    return found


def links_of(cut):
    """A dict of the links of occurrences with these pieces: of each its ends."""
    found = {("own", k, p): ((k, p), (k, p + 1)) for k, own in enumerate(cut) for p in range(len(own) - 1)}
    for k, m in itertools.combinations(range(len(cut)), 2):
        for p, q in itertools.product(range(len(cut[k])), range(len(cut[m]))):
            if meet(cut[k][p], cut[m][q]):
                found["meet", k, p, m, q] = ((k, p), (m, q))
    return found


def goes_round(ends, lots):
    """Whether there is a round: some way from a lot through unlike lots and pieces back to it, of two or more."""
    pieces = [{end for link in lot for end in ends[link]} for lot in lots]

    def on(row, way):
        for k, its_pieces in enumerate(pieces):
            for piece in pieces[row[-1]] & its_pieces:
                if piece not in way:
                    if k == row[0] and len(row) > 1:
                        return True
                    if k > row[0] and k not in row and on(row + [k], way + [piece]):
                        return True
        return False
    return any(on([k], []) for k in range(len(lots)))


def some_woven(seed, many, cells=3, most=3):
    """So many triples of a game of few cells, owners that cut all of its deeds, and some occurrences of these."""
    things = Things(seed)
    found = []
    while len(found) < many:
        sizes = tuple((things.random.randint(2, 4), 0) for _ in range(cells))
        deeds = []
        for _ in range(things.random.randint(1, 4)):
            changed = sorted(things.random.sample(range(cells), things.random.randint(0, cells)))
            effects = tuple((c, things.tiny_term(cells)) for c in changed)
            guard = things.random.choice([YES, things.tiny_condition(cells)])
            deeds.append((things.random.choice((None, 0, 1)), things.random.randint(1, 3), guard, effects, (0, 1)))
        game = (2, sizes, tuple(deeds), ((YES,) * cells,) * 2)
        owners = tuple(things.random.randrange(things.random.choice((1, 2, 3, 6))) for _ in range(cells))
        if all(is_cut(owners, deed) for deed in deeds):
            numbers = [things.random.randrange(len(deeds)) for _ in range(things.random.randint(1, most))]
            found.append((game, owners, tuple((number, things.random.randrange(deeds[number][1]))
                                              for number in numbers)))
    return found

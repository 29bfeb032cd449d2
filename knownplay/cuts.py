"""Cuts: cells kept in several places, and deeds done in pieces, one at each place."""

from knownplay.bounds import MAX_SHARDS
from knownplay.errors import Unfit
from knownplay.terms import asked
from knownplay.values import is_row, is_whole


def owners_error(game, value):
    """None if value, any value, is owners of game; otherwise what is wrong with it."""
    many = len(game[1])
    if not is_row(value, many, many) or not all([is_whole(shard, 0, MAX_SHARDS - 1) for shard in value]):
        return "form"
    return None


def uncut(game, owners):
    """The ascending tuple of the deeds that owners do not cut."""
    return tuple([number for number, deed in enumerate(game[2]) if not is_cut(owners, deed)])


def is_cut(owners, deed):
    """Whether owners cut deed, a deed of a game."""
    _, _, guard, effects, _ = deed
    first = shards_of(owners, deed)[0]
    if not all([owners[cell] == first for cell in asked(guard)]):
        return False
    return all([owners[other] <= owners[cell] for cell, term in effects for other in asked(term)])


def shards_of(owners, deed):
    """The ascending tuple of the shards of deed."""
    touched = cells_asked(deed) + cells_set(deed)
    return tuple(sorted({owners[cell] for cell in touched})) if touched else (0,)


def cells_asked(deed):
    """The ascending tuple of the cells that deed asks."""
    _, _, guard, effects, _ = deed
    cells = [*asked(guard)]
    for _, term in effects:
        cells.extend(asked(term))
    return tuple(sorted(set(cells)))


def cells_set(deed):
    """The ascending tuple of the cells that deed sets."""
    return tuple([cell for cell, _ in deed[3]])


def pieces(game, owners, deed):
    """The tuple of the pieces of deed; Unfit() if owners do not cut it."""
    if not is_cut(owners, game[2][deed]):
        raise Unfit()
    found = []
    for shard in shards_of(owners, game[2][deed]):
        asks = tuple([cell for cell in cells_asked(game[2][deed]) if owners[cell] == shard])
        sets = tuple([cell for cell in cells_set(game[2][deed]) if owners[cell] == shard])
        found.append((shard, asks, sets))
    return tuple(found)


def meet(piece, other):
    """Whether two pieces meet, being such of unlike occurrences."""
    if piece[0] != other[0]:
        return False
    touched = other[1] + other[2]
    return any([cell in touched for cell in piece[2]]) or any([cell in other[2] for cell in piece[1]])

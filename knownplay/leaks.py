"""Leaks and lacks: plays by which a wire tells a player more than the rules show, or less."""

from knownplay.plays import play_error
from knownplay.tellers import Ears, Viewer, found_from, way_to
from knownplay.values import is_row
from knownplay.views import view
from knownplay.wires import heard_by


def pairs_from(teller):
    """A dict of the pairs of states in which plays end of which teller is told the same, as found_from has them.

    A step to a pair is a pair of moves.
    """
    return found_from([(teller.first, teller.first)], lambda pair: pairs_behind(teller, pair))


def pairs_behind(teller, pair):
    """A list of the pairs of two moves of which teller is told the same, and of the two states behind them."""
    ways, others = teller.ways(pair[0]), teller.ways(pair[1])
    found = []
    for told in ways:
        if told in others:
            found.extend([((m, n), (s, t)) for m, s in ways[told] for n, t in others[told]])
    return found


def pairs_by_views(game, player):
    """The ascending tuple of all pairs of states alike by views of player; TooMany(MAX_TABLE) if there are more."""
    return tuple(sorted(list(pairs_from(Viewer(game, player)))))


def pairs_by_rows(game, wire, player):
    """The ascending tuple of all pairs of states alike by rows of player; TooMany(MAX_TABLE) if there are more."""
    return tuple(sorted(list(pairs_from(Ears(game, wire, (player,))))))


def parted(pairs, alike, unlike):
    """Two plays of which alike is told the same and unlike is not, as short as can be; None if there are none.

    pairs are those that come by what alike is told. At the beginning both are told the same: there is one first state.
    """
    for pair in pairs:
        moves = parted_moves(alike, unlike, pair)
        if moves is not None:
            steps = (*way_to(pairs, pair)[1], moves)
            return (tuple([m for m, _ in steps]), tuple([n for _, n in steps]))
    return None


def parted_moves(alike, unlike, pair):
    """Two moves from the states of pair of which alike is told the same and unlike is not; None if there are none."""
    here, there = told_by_both(alike, unlike, pair[0]), told_by_both(alike, unlike, pair[1])
    for told in here:
        for one, m in here[told].items():
            for other, n in there.get(told, {}).items():
                if one != other:
                    return (m, n)
    return None


def told_by_both(alike, unlike, state):
    """A dict by what alike is told of moves in state: for each a dict of what unlike is told, with a move of both."""
    found = {}
    for (move, told, _), (_, other, _) in zip(alike.steps(state), unlike.steps(state)):
        found.setdefault(told, {}).setdefault(other, move)
    return found


def leak(game, wire, player):
    """A shortest pair of plays with one view of player that it hears unlike; None if there is none."""
    viewer = Viewer(game, player)
    return parted(pairs_from(viewer), viewer, Ears(game, wire, (player,)))


def lack(game, wire, player):
    """A shortest pair of plays that player hears alike, with unlike views; None if there is none."""
    ear = Ears(game, wire, (player,))
    return parted(pairs_from(ear), ear, Viewer(game, player))


def plays_error(game, value):
    """What is wrong with value, any value, if it is no pair of plays; otherwise None."""
    if not is_row(value, 2, 2):
        return "form"
    for i, play in enumerate(value):
        error = play_error(game, play)
        if error is not None:
            return ("play", i, error)
    return None


def first_unlike(row, other):
    """The first place at which two rows have unlike items, or just one of them has one; None if there is none."""
    for k, (item, its_like) in enumerate(zip(row, other)):
        if item != its_like:
            return k
    return None if len(row) == len(other) else min(len(row), len(other))


def leak_error(game, wire, player, value):
    """None if value, any value, is a pair of plays that leak; otherwise what is wrong with it."""
    error = plays_error(game, value)
    if error is not None:
        return error
    at = first_unlike(view(game, player, value[0]), view(game, player, value[1]))
    if at is not None:
        return ("views", at)
    alike = heard_by(game, wire, player, value[0]) == heard_by(game, wire, player, value[1])
    return "rows" if alike else None


def lack_error(game, wire, player, value):
    """None if value, any value, is a pair of plays by which the wire lacks; otherwise what is wrong with it."""
    error = plays_error(game, value)
    if error is not None:
        return error
    at = first_unlike(heard_by(game, wire, player, value[0]), heard_by(game, wire, player, value[1]))
    if at is not None:
        return ("rows", at)
    alike = view(game, player, value[0]) == view(game, player, value[1])
    return "views" if alike else None

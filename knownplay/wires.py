"""Wires: what is one, which letters it sends, and what is heard of plays."""

from knownplay.bounds import MAX_ENTRIES
from knownplay.errors import Unfit
from knownplay.games import first_state
from knownplay.plays import step, ticks
from knownplay.terms import condition_error, holds, term_error, worth
from knownplay.values import is_ascending, is_row


def wire_place(game):
    """The place of wires of game."""
    return (len(game[1]), ("deed", "done", "draw", "was"))


def wire_error(game, value):
    """None if value, any value, is a wire of game; otherwise what is wrong with it."""
    if not is_row(value, game[0], game[0]):
        return "form"
    for player, rule in enumerate(value):
        error = player_error(wire_place(game), player, rule)
        if error is not None:
            return error
    return None


def player_error(place, player, rule):
    """What is wrong with the rule that a wire has for player."""
    if not is_row(rule, 0, MAX_ENTRIES):
        return ("rule", player)
    for k, entry in enumerate(rule):
        if not is_row(entry, 2, 2):
            return ("entry", player, k)
        error = condition_error(place, entry[0])
        if error is not None:
            return ("when", player, k, error)
        error = term_error(place, entry[1])
        if error is not None:
            return ("what", player, k, error)
    return None


def wire_without(wire, player, entries):
    """The wire without those entries of the player's rule; Unfit() if entries, any value, are not such numbers."""
    rule = wire[player]
    if not is_ascending(entries, len(rule) - 1):
        raise Unfit()
    rest = tuple([entry for k, entry in enumerate(rule) if k not in entries])
    return (*wire[:player], rest, *wire[player + 1:])


def first_moment(game):
    """The moment of the beginning."""
    first = first_state(game)
    return (first, first, len(game[2]), 0, True)


def moment_of(state, move, done, behind):
    """The moment of a move in a state, done or refused, with the state behind it."""
    # A refused move leaves the state, and its drawn number is 0, as a moment of it has them.
    return (behind, state, move[0], move[1], done)


def letter_at(rule, moment):
    """The letter by a rule at a moment."""
    return tuple([worth(what, moment) if holds(when, moment) else None for when, what in rule])


def letter(game, wire, player, state, move):
    """The player's letter at the moment of the move in the state."""
    done, behind = step(game, state, move)
    return letter_at(wire[player], moment_of(state, move, done, behind))


def first_letter(game, wire, player):
    """The player's letter at the moment of the beginning."""
    return letter_at(wire[player], first_moment(game))


def letter_order(some):
    """The ascending tuple of some letters, letters of ears or rows, each once."""
    once = {item: True for item in some}
    return tuple(sorted(list(once), key=order_key))


def order_key(item):
    """What Python puts in order as letters, letters of ears and rows are: None ahead of every integer."""
    if isinstance(item, tuple):
        return tuple([order_key(part) for part in item])
    return (0, 0) if item is None else (1, item)


def moments(game, play):
    """The moments of the beginning and of each tick of play."""
    behind_it = [moment_of(state, move, done, behind) for state, move, done, behind in ticks(game, play)]
    return [first_moment(game), *behind_it]


def heard(game, wire, ears, play):
    """What ears hear of play: for the beginning and each tick the tuple of their letters."""
    rules = [wire[ear] for ear in ears]
    return tuple([tuple([letter_at(rule, moment) for rule in rules]) for moment in moments(game, play)])


def heard_by(game, wire, player, play):
    """The row of player's letters, for the beginning and each tick of play."""
    return tuple([letter_at(wire[player], moment) for moment in moments(game, play)])

"""Games: what is one, its first state, and how it is named anew."""

from knownplay.bounds import MAX_CELLS, MAX_DEEDS, MAX_OUTCOMES, MAX_PLAYERS, MAX_SIZE
from knownplay.errors import Unfit
from knownplay.terms import PARTS, condition_error, term_error
from knownplay.values import is_ascending, is_order, is_row, is_whole


def game_error(value):
    """None if value, any value, is a game; otherwise what is wrong with it."""
    if not is_row(value, 4, 4):
        return "form"
    players, cells, deeds, sights = value
    if not is_whole(players, 2, MAX_PLAYERS):
        return "players"
    # Each of these counts on what the ones ahead of it have found to be right.
    return cells_error(cells) or deeds_error(players, len(cells), deeds) or sights_error(players, len(cells), sights)


def cells_error(cells):
    """What is wrong with the cells of a game."""
    if not is_row(cells, 1, MAX_CELLS):
        return "cells"
    for c, cell in enumerate(cells):
        if not is_cell(cell):
            return ("cell", c)
    return None


def is_cell(value):
    """Whether value is a pair of a size and of a first value below it."""
    return is_row(value, 2, 2) and is_whole(value[0], 2, MAX_SIZE) and is_whole(value[1], 0, value[0] - 1)


def deeds_error(players, cells, deeds):
    """What is wrong with the deeds of a game of so many players and cells."""
    if not is_row(deeds, 1, MAX_DEEDS):
        return "deeds"
    for d, deed in enumerate(deeds):
        fault = deed_fault(players, cells, deed)
        if fault is not None:
            return ("deed", d, fault)
    return None


def deed_fault(players, cells, value):
    """What is wrong with one deed."""
    if not is_row(value, 5, 5):
        return "form"
    doer, outcomes, guard, effects, seen = value
    if doer is not None and not is_whole(doer, 0, players - 1):
        return "doer"
    if not is_whole(outcomes, 1, MAX_OUTCOMES):
        return "outcomes"
    error = condition_error((cells, ()), guard)
    if error is not None:
        return ("guard", error)
    return effects_fault(cells, effects) or seen_fault(players, doer, seen)


def effects_fault(cells, effects):
    """What is wrong with the effects of a deed."""
    if not isinstance(effects, tuple):
        return "effects"
    least = 0
    for k, effect in enumerate(effects):
        if not is_row(effect, 2, 2) or not is_whole(effect[0], least, cells - 1):
            return ("effect", k)
        error = term_error((cells, ("draw",)), effect[1])
        if error is not None:
            return ("term", k, error)
        least = effect[0] + 1
    return None


def seen_fault(players, doer, seen):
    """What is wrong with those who see a deed of doer."""
    if not is_ascending(seen, players - 1) or (doer is not None and doer not in seen):
        return "seen"
    return None


def sights_error(players, cells, sights):
    """What is wrong with the sights of a game of so many players and cells."""
    if not is_row(sights, players, players):
        return "sights"
    for p, conditions in enumerate(sights):
        if not is_row(conditions, cells, cells):
            return ("sights", p)
        for c, condition in enumerate(conditions):
            error = condition_error((cells, ()), condition)
            if error is not None:
                return ("sight", p, c, error)
    return None


def first_state(game):
    """The state with which game begins."""
    return tuple([first for _, first in game[1]])


def renamed(game, naming):
    """The game by the new numbers that naming, any value, tells; Unfit() if it is no naming of game."""
    if not is_naming(game, naming):
        raise Unfit()
    players, cells, deeds = naming
    new_deeds = [deed_renamed(deed, players, cells) for deed in game[2]]
    new_sights = [put_anew([thing_renamed(sight, cells) for sight in row], cells) for row in game[3]]
    return (game[0], put_anew(game[1], cells), put_anew(new_deeds, deeds), put_anew(new_sights, players))


def is_naming(game, naming):
    """Whether naming has a new number for each player, cell and deed of game."""
    if not is_row(naming, 3, 3):
        return False
    players, cells, deeds = naming
    return is_order(players, game[0]) and is_order(cells, len(game[1])) and is_order(deeds, len(game[2]))


def put_anew(items, numbers):
    """The tuple that has each of items at the place of its new number."""
    anew = list(items)
    for number, item in zip(numbers, items):
        anew[number] = item
    return tuple(anew)


def deed_renamed(deed, players, cells):
    """A deed by the new numbers of players and cells."""
    doer, outcomes, guard, effects, seen = deed
    new_doer = None if doer is None else players[doer]
    new_effects = sorted([(cells[c], thing_renamed(term, cells)) for c, term in effects], key=lambda effect: effect[0])
    new_seen = sorted([players[p] for p in seen])
    return (new_doer, outcomes, thing_renamed(guard, cells), tuple(new_effects), tuple(new_seen))


def thing_renamed(thing, cells):
    """A term or a condition of a game by the new numbers of cells; none of these asks what a cell was."""
    word = thing[0]
    if word == "cell":
        return (word, cells[thing[1]])
    if word in PARTS:
        return (word, *[thing_renamed(part, cells) for part in thing[1:]])
    return thing

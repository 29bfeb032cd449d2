"""Plays: which moves are there, where they lead, what is a play, and which states come."""

from knownplay.bounds import MAX_TABLE
from knownplay.errors import TooMany, Unfit
from knownplay.games import first_state
from knownplay.terms import holds, worth
from knownplay.values import is_row, is_whole


def can_be_done(game, state, number):
    """Whether the deed of this number can be done in state."""
    return holds(game[2][number][2], (state, state, 0, 0, False))


def moves_told(game, state):
    """The pairs of a move that is there in state and of whether it is done, in the order of the moves."""
    found = []
    for number, deed in enumerate(game[2]):
        if can_be_done(game, state, number):
            found.extend([((number, drawn), True) for drawn in range(deed[1])])
        elif deed[0] is not None:
            found.append(((number, 0), False))
    return found


def moves(game, state):
    """The ascending tuple of the moves that are there in state."""
    return tuple([move for move, _ in moves_told(game, state)])


def is_done(game, state, move):
    """Whether move, one of those that are there in state, is done."""
    return can_be_done(game, state, move[0])


def state_behind(game, state, move):
    """The state behind a move that is done in state."""
    number, drawn = move
    # All effects are told at the state ahead, whatever those ahead of them have set.
    moment = (state, state, 0, drawn, False)
    cells = list(state)
    for cell, term in game[2][number][3]:
        cells[cell] = worth(term, moment) % game[1][cell][0]
    return tuple(cells)


def step(game, state, value):
    """The pair of whether the move is done and of the state behind it; None if value, any value, is no move there."""
    if not is_row(value, 2, 2) or not is_whole(value[0], 0, len(game[2]) - 1):
        return None
    doer, outcomes, _, _, _ = game[2][value[0]]
    done = can_be_done(game, state, value[0])
    if not is_whole(value[1], 0, outcomes - 1 if done else 0):
        return None
    if done:
        return (True, state_behind(game, state, value))
    return None if doer is None else (False, state)


def stepped(game, state, move):
    """The state behind move, any value, in state; Unfit() if it is no move that is there."""
    found = step(game, state, move)
    if found is None:
        raise Unfit()
    return found[1]


def play_error(game, value):
    """None if value, any value, is a play of game; otherwise what is wrong with it."""
    if not isinstance(value, tuple):
        return "form"
    state = first_state(game)
    for k, move in enumerate(value):
        found = step(game, state, move)
        if found is None:
            return ("move", k)
        state = found[1]
    return None


def ticks(game, play):
    """For each move of play the quadruple of the state ahead, the move, whether it is done, and the state behind."""
    found = []
    state = first_state(game)
    for move in play:
        done, behind = step(game, state, move)
        found.append((state, move, done, behind))
        state = behind
    return found


def state_of(game, play):
    """The state behind play."""
    state = first_state(game)
    for move in play:
        state = stepped(game, state, move)
    return state


def states_ahead(game):
    """A dict of the states that come: for each one the state ahead and the move of a shortest play, None for the first.

    It has those of shorter plays ahead of those of longer ones, and raises TooMany if there are too many.
    """
    first = first_state(game)
    ahead = {first: None}
    layer = [first]
    while layer:
        newer = []
        for state in layer:
            for move, done in moves_told(game, state):
                behind = state_behind(game, state, move) if done else state
                if behind not in ahead:
                    ahead[behind] = (state, move)
                    newer.append(behind)
            if len(ahead) > MAX_TABLE:
                raise TooMany(MAX_TABLE)
        layer = newer
    return ahead


def states(game):
    """The ascending tuple of all states that come; TooMany(MAX_TABLE) if there are more."""
    return tuple(sorted(states_ahead(game)))


def is_state(game, value):
    """Whether value, any value, is a state of game, be it one that comes or not."""
    cells = game[1]
    if not is_row(value, len(cells), len(cells)):
        return False
    return all([is_whole(item, 0, cell[0] - 1) for item, cell in zip(value, cells)])


def nearest(game, state):
    """A shortest play behind which state, any value, stands; TooMany as by states, or Unfit() if it never comes."""
    ahead = states_ahead(game)
    if not is_state(game, state) or state not in ahead:
        raise Unfit()
    play = []
    last = ahead[state]
    while last is not None:
        before, move = last
        play.append(move)
        last = ahead[before]
    return tuple(reversed(play))

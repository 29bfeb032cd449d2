"""Views: what players see of states and of plays by the rules of a game."""

from knownplay.games import first_state
from knownplay.plays import ticks
from knownplay.terms import holds


def sight(game, player, state):
    """The tuple of the values of the cells that player sees in state, None for the others."""
    moment = (state, state, 0, 0, False)
    return tuple([item if holds(see, moment) else None for see, item in zip(game[3][player], state)])


def seen_of(game, player, number, done):
    """What player sees of the deed of this number, done or refused, the cells aside."""
    doer, _, _, _, seen = game[2][number]
    if done:
        return number if player in seen else None
    return ("no", number) if player == doer else None


def view(game, player, play):
    """The view that player has of play: a pair for the beginning, and one for each tick."""
    pairs = [(None, sight(game, player, first_state(game)))]
    for _, move, done, behind in ticks(game, play):
        pairs.append((seen_of(game, player, move[0], done), sight(game, player, behind)))
    return tuple(pairs)


def alike_to(game, player, play, other):
    """Whether player has the same view of play and of other."""
    return view(game, player, play) == view(game, player, other)

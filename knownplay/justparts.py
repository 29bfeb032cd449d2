"""The greatest part of a player's rule that does not leak, and whether some part of the rule is just."""

from knownplay.leaks import lack, pairs_from, parted
from knownplay.tellers import Ears, Fewer, Viewer
from knownplay.wires import wire_without


def spilling(game, wire, player):
    """The ascending tuple of the entries of the player's rule that leak alone; TooMany as by pairs_by_views."""
    viewer, ear = Viewer(game, player), Ears(game, wire, (player,))
    pairs = pairs_from(viewer)
    many = len(wire[player])
    return tuple([k for k in range(many) if parted(pairs, viewer, Fewer(ear, (k,))) is not None])


def greatest(game, wire, player):
    """The wire without the entries of the player's rule that leak alone."""
    return wire_without(wire, player, spilling(game, wire, player))


def can_be_just(game, wire, player):
    """Whether some part of the player's rule is just for player: only the greatest that does not leak can be."""
    return lack(game, greatest(game, wire, player), player) is None

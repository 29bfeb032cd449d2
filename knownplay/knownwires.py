"""The known wires: those that tell all that is seen, all that changed, all cells, or nothing."""

from knownplay.errors import Unfit
from knownplay.terms import PARTS
from knownplay.wires import wire_error

YES = ("yes",)


def silent_wire(game):
    """The wire that tells nobody anything."""
    return ((),) * game[0]


def bare_wire(game):
    """The wire that tells all players all cells, always."""
    return (tuple([(YES, ("cell", c)) for c in range(len(game[1]))]),) * game[0]


def plain_wire(game):
    """The wire that tells each player, cell by cell, what it sees, and the deed if it sees that."""
    return tuple([plain_rule(game, player) for player in range(game[0])])


def plain_rule(game, player):
    """The rule of the plain wire for player."""
    cells = [(see, ("cell", c)) for c, see in enumerate(game[3][player])]
    return (*cells, deed_entry(game, player))


def changes_wire(game):
    """The wire that tells each player what changed of what it sees; Unfit() if its entries would be none."""
    wire = tuple([changes_rule(game, player) for player in range(game[0])])
    if wire_error(game, wire) is not None:
        raise Unfit()
    return wire


def changes_rule(game, player):
    """The rule of the changes wire for player, even if its entries are none."""
    cells = [change_entry(c, game[1][c][0], see) for c, see in enumerate(game[3][player])]
    return (*cells, deed_entry(game, player))


def change_entry(c, size, see):
    """The entry that tells of the cell c, of this size, what changed, to whom sees it when see holds."""
    saw = as_it_was(see)
    cell = ("cell", c)
    new = ("either", ("not", saw), ("not", ("same", cell, ("was", c))))
    gone = ("both", ("not", see), saw)
    return (("either", ("both", see, new), gone), ("choose", see, cell, ("is", size)))


def as_it_was(thing):
    """A term or a condition that asks of each cell what it was, where thing asks what it is."""
    word = thing[0]
    if word == "cell":
        return ("was", thing[1])
    if word in PARTS:
        return (word, *[as_it_was(part) for part in thing[1:]])
    return thing


def deed_entry(game, player):
    """The entry that tells player the deed, if it sees it: by its number, or behind all numbers if it was refused."""
    refused = ("sum", ("deed",), ("is", len(game[2])))
    return (sees_deed(game, player), ("choose", ("done",), ("deed",), refused))


def sees_deed(game, player):
    """The condition that player sees which deed there was."""
    found = []
    for d, (doer, _, _, _, seen) in enumerate(game[2]):
        if player in seen:
            this_one = ("same", ("deed",), ("is", d))
            found.append(this_one if player == doer else ("both", ("done",), this_one))
    return by_halves(found) if found else ("not", YES)


def by_halves(conditions):
    """One condition that holds if one of conditions does; the first half has one more if they are odd."""
    if len(conditions) == 1:
        return conditions[0]
    half = (len(conditions) + 1) // 2
    return ("either", by_halves(conditions[:half]), by_halves(conditions[half:]))

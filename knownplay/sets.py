"""Sets of states: what can be known by the letters that were heard."""

from knownplay.errors import Unfit
from knownplay.games import first_state
from knownplay.plays import is_state
from knownplay.tellers import Ears, layers_from, moves_to, sure_in
from knownplay.values import ascends, is_row, is_whole


def is_set(game, value):
    """Whether value, any value, is an ascending tuple, not (), of states of game, be they such that come or not."""
    if not isinstance(value, tuple) or not value:
        return False
    return all([is_state(game, state) for state in value]) and ascends(value)


def begun(game, wire, ears):
    """The pair of the ears' letters of the beginning and of the set of the first state alone."""
    return (Ears(game, wire, ears).first_told(), (first_state(game),))


def gone_on(game, wire, ears, some, letters):
    """The set of all states behind a move of a state of some with which the ears hear letters, any value."""
    teller = Ears(game, wire, ears)
    return teller.gone_on(teller.lot(some), letters).states


def next_letters(game, wire, ears, some):
    """The ascending tuple of the letters that the ears can hear next, in a state of some."""
    teller = Ears(game, wire, ears)
    return teller.letters(teller.lot(some))


def known(game, wire, ears, row):
    """The set known by row, any value; () if it is no row that is heard."""
    return Ears(game, wire, ears).known(row).states


def sure(game, some):
    """For each cell its value, if it is the same in all states of some, otherwise None."""
    return sure_in(some)


def witnesses(game, wire, ears, row):
    """For each state of the set known by row, any value, a play that is heard as row and ends in it."""
    some, layers = known_layers(game, wire, ears, row)
    return tuple([moves_to(layers, state) for state in some])


def wrong_play(game, wire, ears, row, shown):
    """A play that is heard as row, and behind which a cell has another value than shown has; None if there is none."""
    if not is_showing(game, shown):
        raise Unfit()
    some, layers = known_layers(game, wire, ears, row)
    for state in some:
        if any([item is not None and item != value for item, value in zip(shown, state)]):
            return moves_to(layers, state)
    return None


def known_layers(game, wire, ears, row):
    """The pair of the set known by row, any value, and of the layers of states to it; if it is (), of none."""
    teller = Ears(game, wire, ears)
    some = teller.known(row).states
    # Only a row that is heard has nothing but letters, which alone can be compared.
    return (some, layers_from(teller, [teller.first], row[1:]) if some else [])


def is_showing(game, value):
    """Whether value, any value, is a tuple that has for each cell of game a value of it, or None."""
    cells = game[1]
    if not is_row(value, len(cells), len(cells)):
        return False
    return all([item is None or is_whole(item, 0, cell[0] - 1) for item, cell in zip(value, cells)])

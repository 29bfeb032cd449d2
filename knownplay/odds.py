"""Odds: how likely each state is, if the deeds are told and what is heard of them."""

from math import gcd

from knownplay.bounds import MAX_TABLE
from knownplay.errors import TooMany, Unfit
from knownplay.tellers import Ears
from knownplay.values import is_letters, is_row


class Heard:
    """A row that is heard, kept as its last letters and the row ahead of them, as many rows begin alike."""

    def __init__(self, begun_with, latest):
        self.begun_with = begun_with
        self.latest = latest

    def row(self):
        """The whole row."""
        found = []
        last = self
        while last is not None:
            found.append(last.latest)
            last = last.begun_with
        return tuple(reversed(found))


def lowest(top, bottom):
    """The odds of top over bottom."""
    common = gcd(top, bottom)
    return (top // common, bottom // common)


def tried(teller, state, deed):
    """A pair: the list of the steps of teller by the moves of deed in state, and the weight of each of them.

    Weights are told here times how many outcomes the deed has, so that they are integers: a deed that is told makes
    all of them greater alike, so they have the same ratios.
    """
    steps = [found for found in teller.steps(state) if found[0][0] == deed]
    return (steps, teller.game[2][deed][1] // max(len(steps), 1))


def weighed_on(teller, weights, deed, told):
    """The weights of states behind deed, from those ahead, by all moves of which told is told; by any if it is None."""
    found = {}
    for state, weight in weights.items():
        steps, share = tried(teller, state, deed)
        for _, letters, behind in steps:
            if told is None or letters == told:
                found[behind] = found.get(behind, 0) + weight * share
    return found


def weighed_by(ear, deeds, row):
    """The weights of the states behind all plays that go by deeds and begin to be heard as row, any value.

    It raises Unfit() if there are none.
    """
    if not is_row(row, 0, len(deeds) + 1) or not all([is_letters(letters) for letters in row]):
        raise Unfit()
    if row and row[0] != ear.first_told():
        raise Unfit()
    wanted = [*row[1:], *([None] * len(deeds))]
    weights = {ear.first: 1}
    for deed, letters in zip(deeds, wanted):
        weights = weighed_on(ear, weights, deed, letters)
    if not weights:
        raise Unfit()
    return weights


def weighed_by_all(ear, deeds, row):
    """The same behind all plays that go by deeds and are heard as row."""
    if not is_row(row, len(deeds) + 1, len(deeds) + 1):
        raise Unfit()
    return weighed_by(ear, deeds, row)


def odds(game, wire, ears, deeds, row):
    """The odds of each state behind deeds, if ears heard row, any value; Unfit() if they never do."""
    weights = weighed_by_all(Ears(game, wire, ears), deeds, row)
    whole = sum(list(weights.values()))
    return tuple([(state, lowest(weights[state], whole)) for state in sorted(list(weights))])


def by_values(game, weights, cell):
    """The list of the weights of the states in which the cell has each of its values."""
    found = [0] * game[1][cell][0]
    for state, weight in weights.items():
        found[state[cell]] += weight
    return found


def foretold(game, wire, ears, deeds, row, cell):
    """The odds of each value of the cell behind deeds, if what ears hear begins with row, any value; Unfit() if not."""
    found = by_values(game, weighed_by(Ears(game, wire, ears), deeds, row), cell)
    return tuple([lowest(weight, sum(found)) for weight in found])


def living(ear, deeds):
    """For the beginning and behind each of deeds a dict of the states from which plays go by all that are left."""
    layers = [{ear.first: True}]
    for deed in deeds:
        newer = {behind: True for state in layers[-1] for _, _, behind in tried(ear, state, deed)[0]}
        layers.append(newer)
    for k in reversed(range(len(deeds))):
        newer = layers[k + 1]
        layers[k] = {state: True for state in layers[k] if leads_into(ear, state, deeds[k], newer)}
    return layers


def leads_into(ear, state, deed, some):
    """Whether a move of deed leads from state into some."""
    return any([behind in some for _, _, behind in tried(ear, state, deed)[0]])


def weighed_rows(ear, deeds):
    """A dict of the rows that are heard by plays that go by deeds: of each the weights of the states behind it.

    The rows stand in the order of their least plays; TooMany(MAX_TABLE) is raised if there are more.
    """
    layers = living(ear, deeds)
    entries = {(Heard(None, ear.first_told()), state): 1 for state in layers[0]}
    for deed, alive in zip(deeds, layers[1:]):
        entries = heard_on(ear, entries, deed, alive)
    found = {}
    for (heard, state), weight in entries.items():
        found.setdefault(heard, {})[state] = weight
    return found


def heard_on(ear, entries, deed, alive):
    """The weights of rows and states behind deed, from those ahead; of states alone that are alive.

    Entries stand in the order of their least plays. So the plays here are gone through in their order, and what is met
    first is met by its least play. As each row here is the beginning of a whole one, these are as many or more.
    """
    rows = {}
    found = {}
    for (ahead, state), weight in entries.items():
        steps, share = tried(ear, state, deed)
        for _, letters, behind in steps:
            if behind in alive:
                if (ahead, letters) not in rows:
                    rows[(ahead, letters)] = Heard(ahead, letters)
                entry = (rows[(ahead, letters)], behind)
                found[entry] = found.get(entry, 0) + weight * share
        if len(rows) > MAX_TABLE:
            raise TooMany(MAX_TABLE)
    return found


def rows_by(game, wire, ears, deeds):
    """The pairs of a row that ears hear by plays that go by deeds, and of its odds, in the order of least plays."""
    rows = weighed_rows(Ears(game, wire, ears), deeds)
    weights = [(heard.row(), sum(list(rows[heard].values()))) for heard in rows]
    whole = sum([weight for _, weight in weights])
    return tuple([(row, lowest(weight, whole)) for row, weight in weights])


def hit(game, wire, ears, deeds, cell):
    """The greatest odds with which a guesser of the cell is right behind deeds; Unfit() if no play goes by them."""
    rows = weighed_rows(Ears(game, wire, ears), deeds)
    if not rows:
        raise Unfit()
    best = sum([max(by_values(game, rows[heard], cell)) for heard in rows])
    return lowest(best, sum([weight for heard in rows for weight in list(rows[heard].values())]))


def guess(game, wire, ears, deeds, row, cell):
    """A value of the cell that has the greatest odds behind row, any value; Unfit() as by odds."""
    found = by_values(game, weighed_by_all(Ears(game, wire, ears), deeds, row), cell)
    return found.index(max(found))

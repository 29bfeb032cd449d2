"""Tries: what comes of a player's deeds, one behind another, if nobody else moves."""

from knownplay.tellers import Teller, found_from
from knownplay.values import is_count, is_row
from knownplay.views import sight

REFUSED = ("refused",)


class Trier(Teller):
    """A player's tries, told the result of each move; its pairs are of how many tries are done, and of a state."""

    def __init__(self, game, player, tries):
        Teller.__init__(self, game)
        self.player = player
        self.tries = tries

    def told(self, state, move, done, behind):
        """The result of a move."""
        if not done:
            return REFUSED
        return ("set", tuple([(cell, behind[cell]) for cell, _ in self.game[2][move[0]][3]]))

    def tried(self, pair):
        """A list with a triple for each move of the try that is due: the move, its result, the pair behind it."""
        many, state = pair
        if many == len(self.tries):
            return []
        due = self.tries[many]
        return [(move, told, (many + 1, behind)) for move, told, behind in self.steps(state) if move[0] == due]

    def others(self, pair):
        """A list of the pairs of a move of somebody else and of the pair behind it."""
        many, state = pair
        deeds = self.game[2]
        found = self.steps(state)
        return [(move, (many, behind)) for move, _, behind in found if deeds[move[0]][0] != self.player]

    def tried_on(self, pair):
        """A list of the pairs of a move of the try that is due and of the pair behind it."""
        return [(move, behind) for move, _, behind in self.tried(pair)]

    def ons(self, pair):
        """A list of the pairs of a move of either kind and of the pair behind it."""
        return self.tried_on(pair) + self.others(pair)


def is_result(value):
    """Whether value, any value, is a result of some move: only then == tells whether it is that of a move."""
    if is_row(value, 1, 1):
        return value[0] == "refused"
    if not is_row(value, 2, 2) or value[0] != "set" or not isinstance(value[1], tuple):
        return False
    return all([is_row(pair, 2, 2) and is_count(pair[0]) and is_count(pair[1]) for pair in value[1]])


def result(game, state, move):
    """The result of a move in state."""
    return Trier(game, None, ()).step(state, move)[0]


def alone_rows(game, state, tries):
    """The ascending tuple of all rows of results, if tries are tried one behind another from state, and no more."""
    trier = Trier(game, None, tries)
    # A row tells all that was set, so just one state stands behind it.
    rows = {(): (0, state)}
    for _ in tries:
        longer = {}
        for row, pair in rows.items():
            for _, told, behind in trier.tried(pair):
                longer[row + (told,)] = behind
        rows = longer
    return tuple(sorted(list(rows)))


def begun_pairs(known):
    """The list of the pairs at which nothing is tried as yet."""
    return [(0, state) for state in known]


def shown_at(trier, pairs):
    """The row of the results that the moves of a try have at all of pairs at which it is due; None if they differ."""
    found = [{} for _ in trier.tries]
    for pair in pairs:
        for _, told, _ in trier.tried(pair):
            found[pair[0]][told] = True
    return tuple([list(told)[0] if len(told) == 1 else None for told in found])


def cells_in(game, player, some):
    """For each cell what the player sees of it in all of some states: a value, or that it is hidden; else None."""
    seen = [sight(game, player, state) for state in some]
    found = []
    for cell in range(len(game[1])):
        items = {row[cell]: True for row in seen}
        item = list(items)[0]
        if len(items) > 1:
            found.append(None)
        else:
            found.append("hidden" if item is None else ("seen", item))
    return tuple(found)


def guess_alone(game, player, known, tries):
    """The results that tries have from all states of known, if nobody else moves; None where they are not the same."""
    trier = Trier(game, player, tries)
    return shown_at(trier, found_from(begun_pairs(known), trier.tried_on))


def guess_cells(game, player, known, tries):
    """For each cell what player sees of it behind tries from all states of known, if nobody else moves."""
    trier = Trier(game, player, tries)
    pairs = found_from(begun_pairs(known), trier.tried_on)
    return cells_in(game, player, [state for many, state in pairs if many == len(tries)])

"""Leanings: whether a wire ever hints at more than the rules show, though it may exclude nothing."""

from math import gcd

from knownplay.bounds import MAX_HINTED, MAX_PLANES
from knownplay.errors import TooMany
from knownplay.odds import tried, weighed_on
from knownplay.plays import play_error, states
from knownplay.tellers import Ears, Viewer


class Leaner:
    """A player, told its view by the rules and letters by a wire, in a game of few states, which have numbers."""

    def __init__(self, game, wire, player):
        some = few_states(game)
        numbers = {state: number for number, state in enumerate(some)}
        viewer, ear = Viewer(game, player), Ears(game, wire, (player,))
        deeds = range(len(game[2]))
        self.begun_at = numbers[viewer.first]
        self.many = len(some)
        # For each state the moves from it, and for each deed what is told of its moves, where they lead, their weight.
        self.moved = [moves_told(viewer, ear, state, numbers) for state in some]
        self.seen = [[weighed_steps(viewer, state, deed, numbers) for deed in deeds] for state in some]
        self.heard = [[weighed_steps(ear, state, deed, numbers) for deed in deeds] for state in some]

    def table_behind(self, table, tick):
        """The table behind a move, of which tick is what moves_told tells, from the one ahead of it."""
        move, item, letters, _ = tick
        half = {}
        for (one, other), whole in table.items():
            for told, behind, weight in self.seen[one][move[0]]:
                if told == item:
                    half[(behind, other)] = half.get((behind, other), 0) + whole * weight
        found = {}
        for (one, other), whole in half.items():
            for told, behind, weight in self.heard[other][move[0]]:
                if told == letters:
                    found[(one, behind)] = found.get((one, behind), 0) + whole * weight
        return {pair: found[pair] for pair in found if found[pair] != 0}


def few_states(game):
    """The ascending tuple of the states that come; TooMany(MAX_HINTED) if there are more."""
    try:
        some = states(game)
    except TooMany:
        raise TooMany(MAX_HINTED) from None
    if len(some) > MAX_HINTED:
        raise TooMany(MAX_HINTED)
    return some


def moves_told(viewer, ear, state, numbers):
    """A list of quadruples for the moves from state: the move, the view's item, the letters, the state's number."""
    steps = zip(viewer.steps(state), ear.steps(state))
    return [(move, item, letters, numbers[behind]) for (move, item, behind), (_, letters, _) in steps]


def weighed_steps(teller, state, deed, numbers):
    """A list of triples for the moves of deed in state: what is told, the number of the state behind, the weight."""
    steps, share = tried(teller, state, deed)
    return [(told, numbers[behind], share) for _, told, behind in steps]


def primitive(table):
    """The table divided by what divides all of its numbers."""
    common = 0
    for whole in list(table.values()):
        common = gcd(common, whole)
    return {key: table[key] // common for key in table}


def rest_of(table, basis):
    """What is left of table, a dict of integers, none 0, less fractions of those of basis; {} if it comes of them.

    basis is a list of pairs of a key and a table that has it, in which no later one has it.
    """
    rest = primitive(table)
    for key, other in basis:
        if key in rest:
            rest = without_key(rest, other, key)
    return rest


def without_key(table, other, key):
    """A multiple of table less one of other, in which key has nothing."""
    times, others = other[key], table[key]
    found = {at: times * table[at] for at in table}
    for at in other:
        found[at] = found.get(at, 0) - others * other[at]
    return primitive({at: found[at] for at in found if found[at] != 0})


def is_newer(table, basis):
    """Whether table does not come of basis; then what is left of it is added there."""
    rest = rest_of(table, basis)
    if rest:
        basis.append((list(rest)[0], rest))
    return len(rest) > 0


def leans(seen, heard):
    """Whether the odds by two dicts of the weights of states are unlike."""
    by_views, by_rows = sum(list(seen.values())), sum(list(heard.values()))
    both = {**seen, **heard}
    return any([seen.get(state, 0) * by_rows != heard.get(state, 0) * by_views for state in both])


def leaning_error(game, wire, player, value):
    """None if value, any value, is a play behind which the wire leans for player; otherwise what is wrong with it."""
    if play_error(game, value) is not None:
        return "play"
    sides = []
    for teller in (Viewer(game, player), Ears(game, wire, (player,))):
        weights = {teller.first: 1}
        for move, (told, _) in zip(value, teller.through(value)):
            weights = weighed_on(teller, weights, move[0], told)
        sides.append(weights)
    return None if leans(sides[0], sides[1]) else "even"


class Hinted:
    """A play, kept as what a search needs of it: its moves, where it ends, and the weights by view and by row."""

    def __init__(self, play, number, by_view, by_row):
        self.play = play
        self.ends_at = number
        self.by_view = by_view
        self.by_row = by_row

    def table(self):
        """Its pair table, or a part of it as told by what divides all of its numbers."""
        seen, heard = self.by_view, self.by_row
        return {(one, other): seen[one] * heard[other] for one in seen for other in heard}


def weights_behind(weights, steps, deed, wanted):
    """The weights of the numbers of states behind a move of deed of which wanted is told, as small as can be."""
    found = {}
    for number, weight in weights.items():
        for told, behind, share in steps[number][deed]:
            if told == wanted:
                found[behind] = found.get(behind, 0) + weight * share
    return primitive(found)


def hinted_behind(leaner, hinted):
    """The list of what is hinted behind each move of which a play is gone on with."""
    found = []
    for move, item, letters, behind in leaner.moved[hinted.ends_at]:
        by_view = weights_behind(hinted.by_view, leaner.seen, move[0], item)
        by_row = weights_behind(hinted.by_row, leaner.heard, move[0], letters)
        found.append(Hinted((*hinted.play, move), behind, by_view, by_row))
    return found


def planes_of_plays(leaner):
    """A pair: a shortest play behind which the wire leans, None if there is none, and the tables kept for each state.

    Plays are gone through from the shortest ones on. Those are gone on with alone whose pair table does not come of
    those that are kept. TooMany(MAX_PLANES) is raised if more are kept, and no play of this length leans.
    """
    bases = [[] for _ in range(leaner.many)]
    kept = [[] for _ in range(leaner.many)]
    begun = {leaner.begun_at: 1}
    layer = [Hinted((), leaner.begun_at, begun, begun)]
    while layer:
        for hinted in layer:
            if leans(hinted.by_view, hinted.by_row):
                return (hinted.play, kept)
        newer = []
        for hinted in layer:
            table = hinted.table()
            if is_newer(table, bases[hinted.ends_at]):
                kept[hinted.ends_at].append(table)
                newer.append(hinted)
        if sum([len(tables) for tables in kept]) > MAX_PLANES:
            raise TooMany(MAX_PLANES)
        layer = [found for hinted in newer for found in hinted_behind(leaner, hinted)]
    return (None, kept)


def leaning(game, wire, player):
    """A shortest play behind which the wire leans for player; None if there is none."""
    return planes_of_plays(Leaner(game, wire, player))[0]

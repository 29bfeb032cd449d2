"""Whether one wire is as good for a player as another one, and how few entries of a rule are enough."""

from knownplay.plays import is_state, play_error
from knownplay.sets import is_set
from knownplay.tellers import Ears, Fewer, choices_of, found_from, way_to
from knownplay.values import ascends, is_row


def triples_from(ear, other):
    """A dict of the triples of a state and of the lots known by two tellers behind plays, as found_from has them."""
    return found_from([(ear.first, ear.alone(), other.alone())], lambda triple: triples_behind(ear, other, triple))


def triples_behind(ear, other, triple):
    """A list of the moves from the state of triple, each with the triple behind it."""
    state, some, others = triple
    found = []
    for (move, told, behind), (_, its_like, _) in zip(ear.steps(state), other.steps(state)):
        found.append((move, (behind, ear.after(some, told), other.after(others, its_like))))
    return found


def is_worse(ear, triple):
    """Whether some cell is sure in the last lot of triple, and not in the one ahead of it."""
    here, there = ear.sure(triple[1]), ear.sure(triple[2])
    return any([item is None and its_like is not None for item, its_like in zip(here, there)])


def worse_play(ear, triples):
    """A shortest play to one of triples that is worse; None if there is none."""
    for triple in triples:
        if is_worse(ear, triple):
            return way_to(triples, triple)[1]
    return None


def as_good(game, wire, other, player):
    """A shortest play behind which a cell is sure to player by other and not by wire; None if there is none."""
    ear = Ears(game, wire, (player,))
    return worse_play(ear, triples_from(ear, Ears(game, other, (player,))))


def as_good_error(game, wire, other, player, value):
    """None if value, any value, is a play behind which a cell is sure by other and not by wire; otherwise a word."""
    if play_error(game, value) is not None:
        return "form"
    ear, its_like = Ears(game, wire, (player,)), Ears(game, other, (player,))
    lots = [one.after_all(one.alone(), [told for told, _ in one.through(value)]) for one in (ear, its_like)]
    return None if is_worse(ear, (None, *lots)) else "none"


def good_paper(game, wire, other, player):
    """A closed lot of triples by which wire is as good as other for player; None if it is not."""
    ear = Ears(game, wire, (player,))
    triples = triples_from(ear, Ears(game, other, (player,)))
    if worse_play(ear, triples) is not None:
        return None
    return tuple(sorted([(state, lot.states, its_like.states) for state, lot, its_like in triples]))


def good_paper_error(game, wire, other, player, value):
    """None if value, any value, is a closed lot; otherwise what is wrong with it."""
    if not isinstance(value, tuple) or not all([is_triple(game, item) for item in value]):
        return "form"
    if not ascends(value):
        return "order"
    ear, its_like = Ears(game, wire, (player,)), Ears(game, other, (player,))
    triples = {(state, ear.lot(some), its_like.lot(other)): True for state, some, other in value}
    if (ear.first, ear.alone(), its_like.alone()) not in triples:
        return "begun"
    for k, triple in enumerate(list(triples)):
        behind = [item for _, item in triples_behind(ear, its_like, triple)]
        if is_worse(ear, triple) or not all([item in triples for item in behind]):
            return ("triple", k)
    return None


def is_triple(game, value):
    """Whether value is a triple of a state and two sets of game."""
    return is_row(value, 3, 3) and is_state(game, value[0]) and is_set(game, value[1]) and is_set(game, value[2])


def cheaper(game, wire, player):
    """The places of as few entries of player's rule as are enough; of all these the least tuple."""
    whole = Ears(game, wire, (player,))
    entries = len(wire[player])
    # The whole rule is always enough, so some lot is found.
    for many in range(entries + 1):
        for places in choices_of(tuple(range(entries)), many):
            part = Fewer(whole, places)
            if worse_play(part, triples_from(part, whole)) is None:
                return places
    return None

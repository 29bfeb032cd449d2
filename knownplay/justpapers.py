"""Papers that a wire is just for a player, and that nothing of what it tells too much or too little lasts."""

from knownplay.leaks import pairs_from, parted
from knownplay.plays import is_state
from knownplay.sets import is_set
from knownplay.tellers import Ears, Viewer, found_from, way_to
from knownplay.values import is_row


def just_pairs(game, wire, player):
    """The pairs alike by views of player if the wire is just for it, otherwise None; TooMany if there are too many."""
    viewer, ear = Viewer(game, player), Ears(game, wire, (player,))
    by_views, by_rows = pairs_from(viewer), pairs_from(ear)
    if parted(by_views, viewer, ear) is not None or parted(by_rows, ear, viewer) is not None:
        return None
    return tuple(sorted(list(by_views)))


def just_paper(game, wire, player):
    """A just paper, the pairs alike by views of player, if the wire is just for it; otherwise None."""
    return just_pairs(game, wire, player)


def is_just(game, wire, player):
    """Whether the wire is just for player."""
    return just_pairs(game, wire, player) is not None


def just_paper_error(game, wire, player, value):
    """None if value, any value, is a just paper; otherwise what is wrong with it."""
    if not isinstance(value, tuple) or not all([is_pair(game, item) for item in value]):
        return "form"
    viewer, ear = Viewer(game, player), Ears(game, wire, (player,))
    pairs = {pair: True for pair in value}
    if (viewer.first, viewer.first) not in pairs:
        return "first"
    for k, pair in enumerate(value):
        fault = pair_fault(viewer, ear, pairs, pair)
        if fault is not None:
            return (k, *fault)
    return None


def is_pair(game, value):
    """Whether value is a pair of states of game."""
    return is_row(value, 2, 2) and is_state(game, value[0]) and is_state(game, value[1])


def pair_fault(viewer, ear, pairs, pair):
    """The first two moves from the states of pair that fail, and the word that tells how; None if none do."""
    here, there = told_twice(viewer, ear, pair[0]), told_twice(viewer, ear, pair[1])
    for m, item, letter, s in here:
        for n, other, its_letter, t in there:
            seen, heard = item == other, letter == its_letter
            if seen and not heard:
                return (m, n, "leak")
            if heard and not seen:
                return (m, n, "lack")
            if seen and (s, t) not in pairs:
                return (m, n, "out")
    return None


def told_twice(viewer, ear, state):
    """A list with, for each move in state, the move, its item in the view, its letter, and the state behind."""
    found = []
    for (move, item, behind), (_, letter, _) in zip(viewer.steps(state), ear.steps(state)):
        found.append((move, item, letter, behind))
    return found


def triples_from(viewer, ear):
    """A dict of the triples of a state, its lot by views and its lot by rows behind plays, as found_from has them."""
    first = (viewer.first, viewer.alone(), ear.alone())
    return found_from([first], lambda triple: triples_behind(viewer, ear, triple))


def triples_behind(viewer, ear, triple):
    """A list of the pairs of a move from the state of triple and of the triple behind it."""
    state, by_views, by_rows = triple
    found = []
    for move, item, letter, behind in told_twice(viewer, ear, state):
        found.append((move, (behind, viewer.after(by_views, item), ear.after(by_rows, letter))))
    return found


def lasting(game, wire, player):
    """A shortest play behind which the sets by views and by rows of player are unlike; None if there is none."""
    triples = triples_from(Viewer(game, player), Ears(game, wire, (player,)))
    return unlike_play(triples)


def unlike_play(triples):
    """A shortest play to a triple with unlike sets; None if there is none."""
    for triple in triples:
        if triple[1].states != triple[2].states:
            return way_to(triples, triple)[1]
    return None


def lasting_paper(game, wire, player):
    """A paper that nothing lasts: the pairs of a state and a set that come behind plays; None if something does."""
    triples = triples_from(Viewer(game, player), Ears(game, wire, (player,)))
    if unlike_play(triples) is not None:
        return None
    return tuple(sorted([(state, lot.states) for state, lot, _ in triples]))


def lasting_error(game, wire, player, value):
    """None if value, any value, is a paper that nothing lasts; otherwise what is wrong with it."""
    if not isinstance(value, tuple) or not all([is_lot(game, item) for item in value]):
        return "form"
    viewer, ear = Viewer(game, player), Ears(game, wire, (player,))
    lots = {item: True for item in value}
    if (viewer.first, (viewer.first,)) not in lots:
        return "first"
    for k, (state, lot) in enumerate(value):
        triple = (state, viewer.lot(lot), ear.lot(lot))
        for move, (behind, by_views, by_rows) in triples_behind(viewer, ear, triple):
            if by_views.states != by_rows.states:
                return (k, move, "unlike")
            if (behind, by_views.states) not in lots:
                return (k, move, "out")
    return None


def is_lot(game, value):
    """Whether value is a pair of a state and of an ascending tuple of one state of game or more."""
    return is_row(value, 2, 2) and is_state(game, value[0]) and is_set(game, value[1])

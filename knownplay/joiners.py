"""Joiners, who begin to hear later on: what they are told then, and whether they are as well off as an elder."""

from knownplay.bounds import MAX_ENTRIES
from knownplay.plays import is_state, states, step
from knownplay.sets import is_set
from knownplay.tellers import Ears, found_from, way_to
from knownplay.terms import condition_error, term_error
from knownplay.values import ascends, is_letter, is_row
from knownplay.wires import letter_at


def rule_error(game, value):
    """None if value, any value, is a joiners' rule of game; otherwise what is wrong with it."""
    if not is_row(value, 0, MAX_ENTRIES) or not all([is_row(entry, 2, 2) for entry in value]):
        return "form"
    place = (len(game[1]), ())
    for k, (when, what) in enumerate(value):
        if condition_error(place, when) is not None or term_error(place, what) is not None:
            return ("entry", k)
    return None


def join_letter(game, rule, state):
    """The letter that a joiner is told in state."""
    return letter_at(rule, (state, state, 0, 0, False))


def joined(game, rule, letter):
    """The ascending tuple of the states that come in which letter, any value, is told; TooMany as by states."""
    come = states(game)
    if not is_letter(letter):
        return ()
    return tuple([state for state in come if join_letter(game, rule, state) == letter])


def joined_in(game, rule):
    """A dict of the states that come: for each the set that a joiner has who joins there; TooMany as by states."""
    sets = {}
    for state in states(game):
        sets.setdefault(join_letter(game, rule, state), []).append(state)
    found = {}
    for some in sets.values():
        whole = tuple(some)
        for state in whole:
            found[state] = whole
    return found


class Joining:
    """Who joins by a rule and hears what player hears, beside an elder who has heard it from the beginning on.

    The sets of its triples are lots of its ear.
    """

    def __init__(self, game, wire, player, rule):
        sets = joined_in(game, rule)
        self.ear = Ears(game, wire, (player,))
        self.joined_lots = {state: self.ear.lot(sets[state]) for state in sets}

    def first_triple(self):
        """The triple of the beginning, if the joiner joins there."""
        first = self.ear.first
        return (first, self.ear.alone(), self.joined_lots[first])

    def behind(self, triple):
        """A list of the pairs of a step and of the triple behind it.

        A step is a pair of a move and of whether the joiner joins behind it: whoever joined ahead might join anew.
        """
        state, elder, joiner = triple
        found = []
        for move, told, after in self.ear.steps(state):
            gone = self.ear.after(elder, told)
            found.append(((move, False), (after, gone, self.ear.after(joiner, told))))
            found.append(((move, True), (after, gone, self.joined_lots[after])))
        return found

    def triples(self):
        """A dict of the triples that come, as found_from has them; TooMany if there are too many."""
        return found_from([self.first_triple()], self.behind)

    def with_lots(self, triple):
        """A triple of a state and two sets, these as lots."""
        return (triple[0], self.ear.lot(triple[1]), self.ear.lot(triple[2]))

    def has(self, word, triple):
        """Whether triple has a gap, or a spill, as word tells."""
        elder, joiner = self.ear.sure(triple[1]), self.ear.sure(triple[2])
        more, less = (elder, joiner) if word == "gap" else (joiner, elder)
        return any([item is not None and other is None for item, other in zip(more, less)])


def first_with(joining, word, triples):
    """The first of triples that has word; None if none has."""
    for triple in triples:
        if joining.has(word, triple):
            return triple
    return None


def shortest_tale(game, wire, player, rule, word):
    """A tale with as few moves as can be to a triple that has word; None if there is none."""
    joining = Joining(game, wire, player, rule)
    triples = joining.triples()
    bad = first_with(joining, word, triples)
    if bad is None:
        return None
    ahead, behind = [], []
    for move, joins in way_to(triples, bad)[1]:
        behind.append(move)
        if joins:
            ahead, behind = ahead + behind, []
    return (tuple(ahead), tuple(behind))


def join_gap(game, wire, player, rule):
    """A shortest tale behind which a cell is sure to the elder and not to the joiner; None if there is none."""
    return shortest_tale(game, wire, player, rule, "gap")


def join_spill(game, wire, player, rule):
    """A shortest tale behind which a cell is sure to the joiner and not to the elder; None if there is none."""
    return shortest_tale(game, wire, player, rule, "spill")


def join_tale_error(game, wire, player, rule, word, value):
    """None if value, any value, is a tale behind which there is word; otherwise what is wrong with it."""
    joining = Joining(game, wire, player, rule)
    if not is_row(value, 2, 2) or not isinstance(value[0], tuple) or not isinstance(value[1], tuple):
        return "form"
    triple = joining.first_triple()
    for place, moves in zip(("ahead", "behind"), value):
        for k, move in enumerate(moves):
            if step(game, triple[0], move) is None:
                return (place, k)
            # While nobody has joined yet, the joiner joins anew behind each move.
            due = (move, place == "ahead")
            triple = [behind for told, behind in joining.behind(triple) if told == due][0]
    return None if joining.has(word, triple) else "none"


def join_paper(game, wire, player, rule, word):
    """A paper that no triple that comes has word; None if one has."""
    joining = Joining(game, wire, player, rule)
    triples = joining.triples()
    if first_with(joining, word, triples) is not None:
        return None
    return tuple(sorted([(state, elder.states, joiner.states) for state, elder, joiner in triples]))


def join_paper_error(game, wire, player, rule, word, value):
    """None if value, any value, is a joiners' paper for word; otherwise what is wrong with it."""
    joining = Joining(game, wire, player, rule)
    if not isinstance(value, tuple) or not all([is_triple(game, joining.joined_lots, item) for item in value]):
        return "form"
    if not ascends(value):
        return "order"
    triples = {joining.with_lots(triple): k for k, triple in enumerate(value)}
    if joining.first_triple() not in triples:
        return "begun"
    for triple, k in triples.items():
        if joining.has(word, triple) or not all([behind in triples for _, behind in joining.behind(triple)]):
            return ("triple", k)
    return None


def is_triple(game, come, value):
    """Whether value is a triple of a state and of two sets, all of states of come, and both sets with the state."""
    if not is_row(value, 3, 3) or not is_state(game, value[0]):
        return False
    if not is_set(game, value[1]) or not is_set(game, value[2]):
        return False
    states_come = all([state in come for state in (value[0], *value[1], *value[2])])
    return states_come and value[0] in value[1] and value[0] in value[2]

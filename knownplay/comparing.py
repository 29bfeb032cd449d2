"""Comparing what was told by circles of players: whether all together find what no circle does."""

from knownplay.lies import alone, everybody, first_found, told_error
from knownplay.sets import is_set
from knownplay.tellers import choices_of, found_from, way_to
from knownplay.values import is_ascending, is_row


class Comparers:
    """All players, who compare what they tell by circles.

    Nodes and tellings are those of the document, but that nodes have lots of the players' ear in the place of sets.
    """

    def __init__(self, game, wire, many):
        self.players = tuple(range(game[0]))
        self.ear = everybody(game, wire)
        self.circles = choices_of(tuple(range(game[0])), many)
        self.kept_parts = {}

    def first_node(self):
        """The node of the beginning."""
        first = self.ear.alone()
        return (self.players, first, tuple([(circle, first) for circle in self.circles]))

    def node_of(self, value):
        """The node that value, a node of the document, is here."""
        speakers, some, sets = value
        return (speakers, self.ear.lot(some), tuple([(circle, self.ear.lot(other)) for circle, other in sets]))

    def heard_parts(self, lot, players):
        """A dict of what players can hear next in lot: to each the lot then, by their letters alone."""
        if (lot, players) not in self.kept_parts:
            found = {}
            for letters in self.ear.leads(lot):
                found.setdefault(tuple([letters[p] for p in players]), []).append(letters)
            self.kept_parts[(lot, players)] = {heard: self.ear.after_any(lot, found[heard]) for heard in found}
        return self.kept_parts[(lot, players)]

    def gone_on_by(self, lot, players, told):
        """The lot gone on to from lot by those letters of told that are told by some of players."""
        speakers = tuple([p for p in players if told[p] is not None])
        parts = self.heard_parts(lot, speakers)
        heard = tuple([told[p] for p in speakers])
        return parts[heard] if heard in parts else self.ear.lot(())

    def led(self, node, told):
        """The node to which the telling told leads from node, which has to lead somewhere."""
        speakers = tuple([p for p in self.players if told[p] is not None])
        lots = []
        for circle, lot in node[2]:
            if any([p in speakers for p in circle]):
                lots.append((circle, self.gone_on_by(lot, circle, told)))
        return (speakers, self.gone_on_by(node[1], speakers, told), tuple(lots))

    def nothing(self):
        """The telling of nobody."""
        return (None,) * len(self.players)

    def next_speakers(self, node):
        """The list of all tuples of those who may speak next in node."""
        speakers = node[0]
        return [some for many in range(1, len(speakers) + 1) for some in choices_of(speakers, many)]

    def behind(self, node):
        """A list of the tellings that lead from node, one that comes, to nodes with a set of all, and of these."""
        found = []
        for speakers in self.next_speakers(node):
            for heard in self.heard_parts(node[1], speakers):
                told = list(self.nothing())
                for p, letter in zip(speakers, heard):
                    told[p] = letter
                found.append((tuple(told), self.led(node, tuple(told))))
        return found

    def telling_amiss(self, node, nodes):
        """A telling that leads from node elsewhere than to one of nodes; None if there is none."""
        for speakers in self.next_speakers(node):
            told = self.told_amiss(node, nodes, speakers, self.nothing())
            if told is not None:
                return told
        return None

    def told_amiss(self, node, nodes, speakers, told):
        """The same of those tellings by speakers that go on from told, which may lack the letters of the last ones."""
        left = [p for p in speakers if told[p] is None]
        if not left:
            return None if self.led(node, told) in nodes else told
        for letter in self.candidates(node, left[0]):
            more = (*told[:left[0]], letter, *told[left[0] + 1:])
            if self.leads_on(node, left[0], more):
                found = self.told_amiss(node, nodes, speakers, more)
                if found is not None:
                    return found
        return None

    def candidates(self, node, player):
        """The list of the letters that the first circle with player lets it tell next."""
        lots = [lot for circle, lot in node[2] if player in circle]
        return [heard[0] for heard in self.heard_parts(lots[0], (player,))]

    def leads_on(self, node, player, told):
        """Whether told, so far, leaves each circle with player a set that is not ()."""
        lots = [self.gone_on_by(lot, circle, told) for circle, lot in node[2] if player in circle]
        return all([lot.states != () for lot in lots])

    def nodes(self):
        """A dict of the nodes that come, as found_from has them; TooMany if there are too many."""
        return found_from([self.first_node()], self.behind)


def comparing(game, wire, many):
    """Told rows of as few ticks as can be that all find and no circle of many players does; None if there are none."""
    comparers = Comparers(game, wire, many)
    nodes = comparers.nodes()
    for node in nodes:
        told = comparers.telling_amiss(node, nodes)
        if told is not None:
            return rows_told(comparers, (*way_to(nodes, node)[1], told))
    return None


def rows_told(comparers, tellings):
    """The told rows of what is told at the beginning as it was heard, and then by tellings."""
    rows = []
    for p, first in enumerate(comparers.ear.first_told()):
        rows.append((first, *[told[p] for told in tellings if told[p] is not None]))
    return tuple(rows)


def comparing_error(game, wire, many, value):
    """None if value, any value, is told rows that all find and no circle does; otherwise what is wrong with it."""
    if told_error(game, value) is not None:
        return "form"
    ear = everybody(game, wire)
    if first_found(ear, value) is None:
        return "honest"
    for circle in choices_of(tuple(range(game[0])), many):
        if first_found(ear, alone(value, circle)) is not None:
            return ("lot", circle)
    return None


def comparing_paper(game, wire, many):
    """A paper that no told rows are found by all and by no circle; None if there are such rows."""
    comparers = Comparers(game, wire, many)
    nodes = comparers.nodes()
    for node in nodes:
        if comparers.telling_amiss(node, nodes) is not None:
            return None
    return tuple([told_node(node) for node in nodes])


def told_node(node):
    """The node of the document that node is."""
    speakers, lot, lots = node
    return (speakers, lot.states, tuple([(circle, other.states) for circle, other in lots]))


def comparing_paper_error(game, wire, many, value):
    """None if value, any value, is such a paper; otherwise what is wrong with it."""
    comparers = Comparers(game, wire, many)
    if not isinstance(value, tuple) or not all([is_node(game, comparers.circles, item) for item in value]):
        return "form"
    row = [comparers.node_of(node) for node in value]
    nodes = {node: True for node in row}
    if comparers.first_node() not in nodes:
        return "begun"
    for k, node in enumerate(row):
        if not node[1].states or comparers.telling_amiss(node, nodes) is not None:
            return ("node", k)
    return None


def is_node(game, circles, value):
    """Whether value has the form of a node."""
    if not is_row(value, 3, 3) or value[0] == () or not is_ascending(value[0], game[0] - 1):
        return False
    speakers, some, sets = value
    if some != () and not is_set(game, some):
        return False
    due = [circle for circle in circles if any([p in speakers for p in circle])]
    if not is_row(sets, len(due), len(due)) or not all([is_row(item, 2, 2) for item in sets]):
        return False
    if not all([is_ascending(item[0], game[0] - 1) and is_set(game, item[1]) for item in sets]):
        return False
    return [item[0] for item in sets] == due

"""Told rows and whether they are honest, and lies of one player: how long they last, or whether they are for good."""

from knownplay.errors import Unfit
from knownplay.plays import is_state, play_error, states
from knownplay.sets import is_set
from knownplay.tellers import Ears, choices_of, fits, found_from, layers_from, moves_to, ranks_of, way_to
from knownplay.values import ascends, is_count, is_letter, is_row, is_whole


def told_error(game, value):
    """None if value, any value, is told rows of game; otherwise what is wrong with it."""
    if not is_row(value, game[0], game[0]):
        return "form"
    for p, row in enumerate(value):
        if row is not None and (not isinstance(row, tuple) or not row):
            return ("row", p)
    return None


def everybody(game, wire):
    """All players as ears."""
    return Ears(game, wire, tuple(range(game[0])))


def ticks_of(told):
    """How many ticks told rows have."""
    return max([len(row) for row in told if row is not None], default=1) - 1


def wanted_at(told, tick):
    """For each player the letter that it has to hear at a tick, None for whoever tells nothing of it.

    What is told and is no letter stands as what no letter is: as a string.
    """
    items = [None if row is None or len(row) <= tick else as_letter(row[tick]) for row in told]
    return tuple(items)


def as_letter(item):
    """A told item if it can be compared with letters; otherwise what is none."""
    return item if is_letter(item) else "none"


def lots_told(ear, told):
    """A list of the lots that fit told so far, of the beginning and each tick; it ends with the first one of ()."""
    lot = ear.alone() if fits(ear.first_told(), wanted_at(told, 0)) else ear.lot(())
    lots = [lot]
    for tick in range(1, ticks_of(told) + 1):
        if not lot.states:
            break
        lot = ear.fitting(lot, wanted_at(told, tick))
        lots.append(lot)
    return lots


def first_found(ear, told):
    """The first tick at which told are found not to be honest; None if they are."""
    lots = lots_told(ear, told)
    return None if lots[-1].states else len(lots) - 1


def honest(game, wire, told):
    """A play that fits told, None if there is none; TooMany as by states."""
    states(game)
    ear = everybody(game, wire)
    if first_found(ear, told) is not None:
        return None
    wanted = [wanted_at(told, tick) for tick in range(1, ticks_of(told) + 1)]
    layers = layers_from(ear, [ear.first], wanted)
    return moves_to(layers, list(layers[-1])[0])


def honest_error(game, wire, told, value):
    """None if value, any value, is a play that fits told; otherwise what is wrong with it."""
    if play_error(game, value) is not None:
        return "form"
    if len(value) != ticks_of(told):
        return "length"
    ear = everybody(game, wire)
    heard = [ear.first_told(), *[letters for letters, _ in ear.through(value)]]
    for t, letters in enumerate(heard):
        wanted = wanted_at(told, t)
        for p, letter in enumerate(letters):
            if wanted[p] is not None and wanted[p] != letter:
                return ("told", t, p)
    return None


def found_at(game, wire, told):
    """The first tick at which told are found not to be honest, None if they are; TooMany as by states."""
    states(game)
    return first_found(everybody(game, wire), told)


def alone(told, lot):
    """The told rows in which only the players of lot tell what they tell."""
    return tuple([row if p in lot else None for p, row in enumerate(told)])


def finders(game, wire, told):
    """The ascending tuple of the least lots that find told; TooMany as by states."""
    states(game)
    ear = everybody(game, wire)
    found = []
    for many in range(1, game[0] + 1):
        for lot in choices_of(tuple(range(game[0])), many):
            lesser = [other for other in found if all([p in lot for p in other])]
            if not lesser and first_found(ear, alone(told, lot)) is not None:
                found.append(lot)
    return tuple(sorted(found))


class Lies:
    """What player can tell, and what comes so while all others tell what they hear.

    A node is a triple (lying, state, lot) of a lot of some state: lying tells whether some item was no letter heard.
    """

    def __init__(self, game, wire, player):
        self.player = player
        self.ear = everybody(game, wire)
        self.kept_tellings = {}
        self.kept_behind = {}

    def others(self, letters):
        """What all others hear."""
        return (*letters[:self.player], *letters[self.player + 1:])

    def tellings(self, lot):
        """A dict of what others can hear next in a lot: for each the pairs of what player tells and of the lot then."""
        if lot not in self.kept_tellings:
            found = {}
            for letters, behind in self.ear.leads(lot).items():
                found.setdefault(self.others(letters), []).append((letters[self.player], behind))
            self.kept_tellings[lot] = found
        return self.kept_tellings[lot]

    def behind(self, node):
        """A list of the pairs of a step and of the node behind it; a step is a move and what player tells of it."""
        if node not in self.kept_behind:
            lying, state, lot = node
            found = []
            for move, letters, after in self.ear.steps(state):
                heard = letters[self.player]
                for item, behind in self.tellings(lot).get(self.others(letters), []):
                    found.append(((move, item), (lying or item != heard, after, behind)))
            self.kept_behind[node] = found
        return self.kept_behind[node]

    def first_node(self):
        """The node of the beginning, told as it was heard."""
        return (False, self.ear.first, self.ear.alone())

    def nodes(self):
        """A dict of all nodes that come, as found_from has them; TooMany if there are too many."""
        return found_from([self.first_node()], self.behind)

    def lie_ranks(self, nodes):
        """A dict of the ranks of the lies among nodes from which no ring comes."""
        return ranks_of([node for node in nodes if node[0]], self.behind)

    def told(self, way):
        """The pair of the play and of the row that are told by way, a tuple of steps."""
        first = self.ear.first_told()[self.player]
        return (tuple([move for move, _ in way]), (first, *[item for _, item in way]))

    def lots_behind(self, play, row):
        """The lots behind the lie of play and row, as lots_told has them."""
        rows = [self.ear.first_told(), *[letters for letters, _ in self.ear.through(play)]]
        told = [tuple(column) for column in zip(*rows)]
        told[self.player] = row
        return lots_told(self.ear, tuple(told))

    def turn(self, play, row):
        """The first place at which row has another item than player heard by play; None if there is none."""
        heard = [letters[self.player] for letters, _ in self.ear.through(play)]
        for k, letter in enumerate([self.ear.first_told()[self.player], *heard]):
            if as_letter(row[k]) != letter:
                return k
        return None


def ended_lie(lies, nodes):
    """The first of nodes that is a lie behind which the game ends; None if there is none."""
    for node in nodes:
        if node[0] and not lies.ear.steps(node[1]):
            return node
    return None


def shortest_ring(lies, nodes):
    """A pair (way, back) of a lie for good with the back back, by as few steps as can be; None if there is none."""
    ranks = lies.lie_ranks(nodes)
    best = None
    for node in nodes:
        goal = (True, node[1], node[2])
        if goal not in nodes or goal in ranks:
            continue
        way = way_to(nodes, node)[1]
        most = len(nodes) if best is None else len(best[0]) - len(way) - 1
        round_way = way_between(lies, node, goal, most)
        if round_way is not None:
            best = (way + round_way, len(way))
    return best


def way_between(lies, node, goal, most):
    """The steps of a shortest way, of one step to most, from node to goal; None if there is none."""
    ahead = {node: None}
    layer = [node]
    for _ in range(most):
        newer = []
        for here in layer:
            for step, behind in lies.behind(here):
                if behind == goal:
                    return (*way_to(ahead, here)[1], step)
                if behind not in ahead:
                    ahead[behind] = (here, step)
                    newer.append(behind)
        layer = newer
    return None


def lie_for_good(game, wire, player):
    """A triple (play, row, back) of a lie of player for good, of as few ticks as can be; None if there is none."""
    lies = Lies(game, wire, player)
    nodes = lies.nodes()
    ended, ring = ended_lie(lies, nodes), shortest_ring(lies, nodes)
    if ended is not None:
        way = way_to(nodes, ended)[1]
        if ring is None or len(way) <= len(ring[0]):
            return (*lies.told(way), None)
    return None if ring is None else (*lies.told(ring[0]), ring[1])


def good_error(game, wire, player, value):
    """None if value, any value, is a play, a row and a back of a lie for good; otherwise what is wrong with it."""
    if not is_row(value, 3, 3) or not is_told_play(game, value[:2]):
        return "form"
    play, row, back = value
    if back is not None and not is_whole(back, 0, len(play) - 1):
        return "form"
    lies = Lies(game, wire, player)
    if lies.turn(play, row) is None:
        return "true"
    lots = lies.lots_behind(play, row)
    if not lots[-1].states:
        return ("found", len(lots) - 1)
    come = [lies.ear.first, *[state for _, state in lies.ear.through(play)]]
    if back is None:
        return "end" if lies.ear.steps(come[-1]) else None
    return None if (come[back], lots[back]) == (come[-1], lots[-1]) else "end"


def is_told_play(game, value):
    """Whether value, any value, is a pair of a play and of a tuple with one item more."""
    if not is_row(value, 2, 2) or play_error(game, value[0]) is not None:
        return False
    return is_row(value[1], len(value[0]) + 1, len(value[0]) + 1)


def ranked_lies(lies):
    """A dict of the ranks of all lies that come; None if some lie is for good."""
    nodes = lies.nodes()
    ranks = lies.lie_ranks(nodes)
    lasting = ended_lie(lies, nodes) is not None or len(ranks) < len([node for node in nodes if node[0]])
    return None if lasting else ranks


def greatest_number(ranks):
    """How many ticks the longest of lies of these ranks lasts."""
    return 1 + max(list(ranks.values()), default=-1)


def lie_lasts(game, wire, player):
    """The greatest number of ticks that a lie of player lasts; Unfit() if some lie is for good."""
    ranks = ranked_lies(Lies(game, wire, player))
    if ranks is None:
        raise Unfit()
    return greatest_number(ranks)


def longest_lie(game, wire, player):
    """A lie of player that lasts as long as any does, of as few ticks as can be; None if none lasts a tick."""
    lies = Lies(game, wire, player)
    ranks = ranked_lies(lies)
    if ranks is None:
        raise Unfit()
    if not ranks:
        return None
    nodes = lies.nodes()
    rank = greatest_number(ranks) - 1
    # No lie leads to one of the greatest rank: so the first one is told right behind what was heard.
    node = [lie for lie in nodes if lie[0] and ranks[lie] == rank][0]
    way = list(way_to(nodes, node)[1])
    while rank > 0:
        rank -= 1
        step, node = [lead for lead in lies.behind(node) if ranks[lead[1]] == rank][0]
        way.append(step)
    return lies.told(way)


def lie_error(game, wire, player, number, value):
    """None if value, any value, is a lie of player that lasts number ticks; otherwise what is wrong with it."""
    if not is_told_play(game, value):
        return "form"
    play, row = value
    lies = Lies(game, wire, player)
    turn = lies.turn(play, row)
    if turn is None:
        return "true"
    lasts = len([lot for lot in lies.lots_behind(play, row) if lot.states]) - turn
    return None if lasts == number else ("lasts", lasts)


def lie_paper(game, wire, player):
    """A paper that no lie of player is for good; None if some lie is."""
    lies = Lies(game, wire, player)
    ranks = ranked_lies(lies)
    if ranks is None:
        return None
    truths = sorted([(state, lot.states) for lying, state, lot in lies.nodes() if not lying])
    ranked = sorted([(state, lot.states, rank) for (_, state, lot), rank in ranks.items()])
    return (greatest_number(ranks), tuple(truths), tuple(ranked))


def lie_paper_error(game, wire, player, value):
    """None if value, any value, is a paper that no lie of player is for good; otherwise what is wrong with it."""
    if not is_lie_paper(game, value):
        return "form"
    _, truths, ranked = value
    lies = Lies(game, wire, player)
    # By their place each, the truths, and by their rank each, the lies; as pairs of a state and a lot.
    places = {(state, lies.ear.lot(some)): k for k, (state, some) in enumerate(truths)}
    ranks = {(state, lies.ear.lot(some)): rank for state, some, rank in ranked}
    if (lies.ear.first, lies.ear.alone()) not in places:
        return "begun"
    for pair, k in places.items():
        behind = [node for _, node in lies.behind((False, *pair))]
        true = [node for node in behind if not node[0]]
        # Each move leads to one of truths by what is heard of it, unless the state is none of the set.
        led = all([node[1:] in (ranks if node[0] else places) for node in behind])
        if not led or len(true) < len(lies.ear.steps(pair[0])):
            return ("truth", k)
    for k, (pair, rank) in enumerate(ranks.items()):
        behind = [node[1:] for _, node in lies.behind((True, *pair))]
        lesser = all([other in ranks and ranks[other] < rank for other in behind])
        if not lesser or not lies.ear.steps(pair[0]):
            return ("lie", k)
    return None


def is_lie_paper(game, value):
    """Whether value, any value, has the form of a paper that no lie is for good."""
    if not is_row(value, 3, 3) or not is_count(value[0]):
        return False
    number, truths, ranked = value
    if not isinstance(truths, tuple) or not all([is_row(item, 2, 2) for item in truths]):
        return False
    if not isinstance(ranked, tuple) or not all([is_row(item, 3, 3) for item in ranked]):
        return False
    for state, some in [*truths, *[item[:2] for item in ranked]]:
        if not is_state(game, state) or not is_set(game, some):
            return False
    if not all([is_whole(item[2], 0, number - 1) for item in ranked]):
        return False
    pairs = {item[:2]: True for item in ranked}
    return ascends(truths) and ascends(ranked) and len(pairs) == len(ranked)

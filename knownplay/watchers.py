"""Watchers, who are told every state some ticks late: with which lag they still know more than a player."""

from knownplay.bounds import MAX_LAG
from knownplay.errors import Unfit
from knownplay.plays import is_state, play_error
from knownplay.sets import is_set
from knownplay.settables import row_behind, table_of
from knownplay.tellers import Ears, found_from, layers_from, moves_to, ranks_of, way_to
from knownplay.values import ascends, is_count, is_row, is_whole


def watched(game, wire, player, lag, play):
    """The set that a watcher with this lag, any value, knows behind play; Unfit() if lag is none."""
    if not is_lag(lag):
        raise Unfit()
    return watched_by(Ears(game, wire, (player,)), lag, play).states


def is_lag(value):
    """Whether value, any value, is a lag that may be asked about."""
    return is_whole(value, 0, MAX_LAG)


def watched_by(ear, lag, play):
    """The lot that a watcher with this lag, of however many ticks, knows behind play, hearing what ear hears."""
    ticks = ear.through(play)
    seen = max(len(ticks) - lag, 0)
    last = ear.first if seen == 0 else ticks[seen - 1][1]
    return ear.after_all(ear.lot((last,)), [told for told, _ in ticks[seen:]])


def helps_behind(ear, lag, play):
    """Whether a watcher with this lag helps behind play."""
    return watched_by(ear, lag, play) != watched_by(ear, len(play), play)


def helps_error(game, wire, player, lag, value):
    """None if value, any value, is a play behind which a watcher with this lag helps; otherwise what is wrong."""
    if not is_lag(lag):
        raise Unfit()
    if play_error(game, value) is not None:
        return "form"
    return None if helps_behind(Ears(game, wire, (player,)), lag, value) else "none"


def uneven_behind(ear, pair):
    """A list of the pairs of letters and of the uneven pair of lots to which they lead from pair."""
    more, less = ear.leads(pair[0]), ear.leads(pair[1])
    return [(told, (more[told], less[told])) for told in less if more[told] != less[told]]


def uneven_begun(ear, lots):
    """A list of the uneven pairs of one of lots and of a state in it alone."""
    return [(lot, ear.lot((state,))) for lot in lots if len(lot.states) > 1 for state in lot.states]


class Uneven:
    """The uneven pairs of lots that come to ear: how they come, and the ranks of those from which no ring does."""

    def __init__(self, ear, table):
        self.ear = ear
        lots = [ear.lot(some) for some, _ in table]
        self.pairs = found_from(uneven_begun(ear, lots), self.behind)
        self.ranks = ranks_of(self.pairs, self.behind)

    def behind(self, pair):
        """A list of the letters that lead on from pair to uneven ones, with these."""
        return uneven_behind(self.ear, pair)

    def goes_on(self, pair, many):
        """Whether a way of so many letters leads from pair."""
        return pair not in self.ranks or self.ranks[pair] >= many

    def way(self, pair, many):
        """The letters of a way of so many from pair; there has to be one."""
        letters = []
        for left in reversed(range(many)):
            on = [lead for lead in self.behind(pair) if self.goes_on(lead[1], left)]
            told, pair = on[0]
            letters.append(told)
        return letters

    def ring(self):
        """A pair that stands on a ring, and the tuple of the letters of the ring; None if there is no ring."""
        rest = [pair for pair in self.pairs if pair not in self.ranks]
        if not rest:
            return None
        pair = rest[0]
        places = {}
        letters = []
        # From each pair that is left some letters lead to one that is left: so it meets one anew.
        while pair not in places:
            places[pair] = len(letters)
            told, pair = [lead for lead in self.behind(pair) if lead[1] not in self.ranks][0]
            letters.append(told)
        return (pair, tuple(letters[places[pair]:]))


def helps(game, wire, player, lag):
    """A shortest play behind which a watcher with this lag, any value, helps player; None if there is none."""
    if not is_lag(lag):
        raise Unfit()
    ear = Ears(game, wire, (player,))
    uneven = Uneven(ear, table_of(ear))
    pairs = found_from([(ear.first, ear.alone())], lambda pair: known_behind(ear, pair))
    for state, lot in pairs:
        pair = (lot, ear.lot((state,)))
        if len(lot.states) > 1 and uneven.goes_on(pair, lag):
            layers = layers_from(ear, [state], uneven.way(pair, lag))
            return way_to(pairs, (state, lot))[1] + moves_to(layers, list(layers[-1])[0])
    return None


def known_behind(ear, pair):
    """A list of the moves from the state of pair, each with the pair of the state behind and of the lot then known."""
    return [(move, (behind, ear.after(pair[1], told))) for move, told, behind in ear.steps(pair[0])]


def reach(game, wire, player):
    """The least lag with which a watcher helps player behind no play; None if there is none."""
    ear = Ears(game, wire, (player,))
    uneven = Uneven(ear, table_of(ear))
    if len(uneven.ranks) < len(uneven.pairs):
        return None
    return 1 + max(list(uneven.ranks.values()), default=-1)


def reach_paper(game, wire, player):
    """A paper of reach: a ring by which each lag helps, or ranks by which none above the greatest one does."""
    ear = Ears(game, wire, (player,))
    table = table_of(ear)
    sets = [some for some, _ in table]
    uneven = Uneven(ear, table)
    ring = uneven.ring()
    if ring is None:
        ranked = sorted([(more.states, less.states, uneven.ranks[(more, less)]) for more, less in uneven.pairs])
        return ("ranks", tuple(sorted(sets)), tuple(ranked))
    (more, less), way = way_to(uneven.pairs, ring[0])
    row = (ear.first_told(), *row_behind(table, sets.index(more.states)))
    return ("ring", row, less.states[0], way, ring[1])


def reach_error(game, wire, player, value):
    """None if value, any value, is a paper of reach; otherwise what is wrong with it."""
    ear = Ears(game, wire, (player,))
    if is_row(value, 5, 5) and is_word(value[0], "ring"):
        rows = isinstance(value[1], tuple) and isinstance(value[3], tuple) and isinstance(value[4], tuple)
        return ring_error(ear, value) if rows else "form"
    if not is_row(value, 3, 3) or not is_word(value[0], "ranks") or not are_ranks(game, value):
        return "form"
    return ranks_error(ear, value[1], value[2])


def ranks_error(ear, sets, ranked):
    """What is wrong with the sets and the ranked pairs of a paper; otherwise None."""
    pairs = {(ear.lot(more), ear.lot(less)): rank for more, less, rank in ranked}
    if not ascends(sets) or not ascends(ranked) or len(pairs) < len(ranked):
        return "order"
    lots = {ear.lot(some): k for k, some in enumerate(sets)}
    if ear.alone() not in lots:
        return "first"
    for lot, k in lots.items():
        if not all([behind in lots for behind in ear.leads(lot).values()]):
            return ("sets", k)
    for k, pair in enumerate(list(pairs)):
        if not is_ranked(ear, pairs, pair):
            return ("pair", k)
    return None if all([pair in pairs for pair in uneven_begun(ear, list(lots))]) else "begun"


def is_word(value, word):
    """Whether value, any value, is word."""
    return isinstance(value, str) and value == word


def are_ranks(game, value):
    """Whether value, a triple, has the form of ranks."""
    _, sets, ranked = value
    if not isinstance(sets, tuple) or not all([is_set(game, some) for some in sets]) or not isinstance(ranked, tuple):
        return False
    if not all([is_row(item, 3, 3) and is_count(item[2]) for item in ranked]):
        return False
    return all([is_set(game, more) and is_set(game, less) for more, less, _ in ranked])


def is_ranked(ear, pairs, pair):
    """Whether pair is an uneven one, and its rank is as those of the pairs tell to which letters lead from it."""
    more = {state: True for state in pair[0].states}
    if pair[0] == pair[1] or not all([state in more for state in pair[1].states]):
        return False
    on = [behind for _, behind in uneven_behind(ear, pair)]
    if not all([behind in pairs for behind in on]):
        return False
    return pairs[pair] == 1 + max([pairs[behind] for behind in on], default=-1)


def ring_error(ear, value):
    """What is wrong with value, a quintuple of a ring; otherwise None."""
    _, row, state, way, again = value
    lot = ear.known(row)
    if not is_state(ear.game, state) or state not in lot.states:
        return "row"
    pair = led_through(ear, (lot, ear.lot((state,))), way)
    if pair is None:
        return "way"
    return None if again and led_through(ear, pair, again) == pair else "round"


def led_through(ear, pair, way):
    """The uneven pair to which the letters of way, any values, lead from pair through uneven ones; None if none."""
    if pair[0] == pair[1]:
        return None
    for letters in way:
        pair = (ear.gone_on(pair[0], letters), ear.gone_on(pair[1], letters))
        if not pair[1].states or pair[0] == pair[1]:
            return None
    return pair

"""What somebody is told of each move, worked out once for each state and set, and searches through what comes so."""

from knownplay.bounds import MAX_TABLE
from knownplay.errors import TooMany
from knownplay.games import first_state
from knownplay.plays import moves_told, state_behind
from knownplay.values import is_letters
from knownplay.views import seen_of, sight
from knownplay.wires import first_moment, letter_at, letter_order, moment_of


class Lot:
    """A set, kept as one thing by a teller, which has just one of the same states: so it is found without its states.

    states is the ascending tuple of its states; what leads on from it, and what is sure in it, are kept once they are
    worked out.
    """

    def __init__(self, states):
        self.states = states
        self.kept_leads = None
        self.kept_any = None
        self.kept_sure = None


class Teller:
    """Somebody who is told something of each move; what it is hangs on the class: by this one, nothing."""

    def __init__(self, game):
        self.game = game
        self.first = first_state(game)
        self.kept_steps = {}
        self.kept_lots = {}

    def told(self, state, move, done, behind):
        """What is told of a move in state, done or refused, with the state behind it."""
        return None

    def steps(self, state):
        """A list with a triple for each move in state, in order: the move, what is told of it, the state behind."""
        if state not in self.kept_steps:
            found = []
            for move, done in moves_told(self.game, state):
                behind = state_behind(self.game, state, move) if done else state
                found.append((move, self.told(state, move, done, behind), behind))
            self.kept_steps[state] = found
        return self.kept_steps[state]

    def step(self, state, move):
        """The pair of what is told of a move that is there in state, and of the state behind it."""
        return [(told, behind) for other, told, behind in self.steps(state) if other == move][0]

    def through(self, play):
        """A list with a pair for each move of play: what is told of it, and the state behind."""
        found = []
        state = self.first
        for move in play:
            told, state = self.step(state, move)
            found.append((told, state))
        return found

    def ways(self, state):
        """A dict of what is told of moves in state: of each a list of pairs (move, state behind), each state once."""
        found = {}
        for move, told, behind in self.steps(state):
            found.setdefault(told, {}).setdefault(behind, move)
        return {key: [(one, after) for after, one in found[key].items()] for key in found}

    def lot(self, states):
        """The lot of states, an ascending tuple of states."""
        if states not in self.kept_lots:
            self.kept_lots[states] = Lot(states)
        return self.kept_lots[states]

    def alone(self):
        """The lot of the first state alone."""
        return self.lot((self.first,))

    def leads(self, lot):
        """A dict of all that can be told next in lot: the lot that is gone on to by each."""
        if lot.kept_leads is None:
            found = {}
            for state in lot.states:
                for _, told, behind in self.steps(state):
                    found.setdefault(told, {})[behind] = True
            lot.kept_leads = {told: self.lot(tuple(sorted(list(states)))) for told, states in found.items()}
        return lot.kept_leads

    def after(self, lot, told):
        """The lot gone on to from lot by what is told, something that is told of some move; perhaps that of ()."""
        leads = self.leads(lot)
        return leads[told] if told in leads else self.lot(())

    def after_all(self, lot, tolds):
        """The lot gone on to from lot by one thing told behind another."""
        for told in tolds:
            lot = self.after(lot, told)
        return lot

    def after_any(self, lot, tolds):
        """The lot gone on to from lot by any one of some things told."""
        found = {}
        for told in tolds:
            for state in self.after(lot, told).states:
                found[state] = True
        return self.lot(tuple(sorted(list(found))))

    def after_move(self, lot):
        """The lot gone on to from lot by any move, whatever is told of it."""
        if lot.kept_any is None:
            lot.kept_any = self.after_any(lot, self.leads(lot))
        return lot.kept_any

    def sure(self, lot):
        """What is sure in lot."""
        if lot.kept_sure is None:
            lot.kept_sure = sure_in(lot.states)
        return lot.kept_sure


def sure_in(some):
    """For each cell its value, if it is the same in all states of some, not (); otherwise None."""
    return tuple([column[0] if len(set(column)) == 1 else None for column in zip(*some)])


class Ears(Teller):
    """Ears, told their letters by a wire."""

    def __init__(self, game, wire, ears):
        Teller.__init__(self, game)
        self.rules = [wire[ear] for ear in ears]

    def told(self, state, move, done, behind):
        """The ears' letters of a move."""
        moment = moment_of(state, move, done, behind)
        return tuple([letter_at(rule, moment) for rule in self.rules])

    def first_told(self):
        """The ears' letters of the beginning."""
        moment = first_moment(self.game)
        return tuple([letter_at(rule, moment) for rule in self.rules])

    def letters(self, lot):
        """The ascending tuple of the letters that can be heard next in lot."""
        return letter_order(tuple(self.leads(lot)))

    def gone_on(self, lot, letters):
        """The lot gone on to from lot by letters, any value; that of () if they cannot be heard."""
        return self.after(lot, letters) if is_letters(letters) else self.lot(())

    def known(self, row):
        """The lot known by row, any value; that of () if it is no row that is heard."""
        if not isinstance(row, tuple) or not row or not is_letters(row[0]) or row[0] != self.first_told():
            return self.lot(())
        lot = self.alone()
        for letters in row[1:]:
            lot = self.gone_on(lot, letters)
            if not lot.states:
                return lot
        return lot

    def fitting(self, lot, wanted):
        """The lot gone on to from lot by all letters that are as wanted, as fits tells."""
        return self.after_any(lot, [letters for letters in self.leads(lot) if fits(letters, wanted)])


def fits(letters, wanted):
    """Whether the letters of some ears are those that are wanted; None fits any letter."""
    return all([want is None or want == letter for letter, want in zip(letters, wanted)])


class Fewer(Teller):
    """One ear to whom only those entries of its rule are told that stand at certain places."""

    def __init__(self, ear, places):
        Teller.__init__(self, ear.game)
        self.ear = ear
        self.places = places

    def steps(self, state):
        """As of any teller; but the letters are cut from those of the whole rule."""
        if state not in self.kept_steps:
            found = []
            for move, letters, behind in self.ear.steps(state):
                found.append((move, tuple([letters[0][k] for k in self.places]), behind))
            self.kept_steps[state] = found
        return self.kept_steps[state]


class Viewer(Teller):
    """A player, told what its view has of each tick."""

    def __init__(self, game, player):
        Teller.__init__(self, game)
        self.player = player

    def told(self, state, move, done, behind):
        """The item of the player's view for a move."""
        return (seen_of(self.game, self.player, move[0], done), sight(self.game, self.player, behind))


def choices_of(items, many):
    """The list of all tuples of so many of items, a tuple, in their order: by the first ones, then the second ones."""
    if many == 0:
        return [()]
    found = []
    for k, item in enumerate(items):
        found.extend([(item, *rest) for rest in choices_of(items[k + 1:], many - 1)])
    return found


def found_from(begun_with, go_on):
    """A dict of all nodes that come from some nodes: for each the pair of the node ahead and of the step from there.

    go_on(node) lists the pairs of a step and of the node to which it leads. Those begun with have None. It has
    those behind fewer steps ahead of those behind more, and raises TooMany if there are too many.
    """
    ahead = {node: None for node in begun_with}
    layer = list(ahead)
    while layer:
        newer = []
        for node in layer:
            for step, behind in go_on(node):
                if behind not in ahead:
                    ahead[behind] = (node, step)
                    newer.append(behind)
            if len(ahead) > MAX_TABLE:
                raise TooMany(MAX_TABLE)
        layer = newer
    return ahead


def way_to(ahead, node):
    """The pair of the node that was begun with, and of the tuple of the steps from there to node."""
    steps = []
    last = ahead[node]
    while last is not None:
        node, step = last
        steps.append(step)
        last = ahead[node]
    return (node, tuple(reversed(steps)))


def ranks_of(nodes, go_on):
    """A dict of the ranks of those nodes from which no ring is come to: how many steps the longest way on has.

    All nodes to which go_on leads have to be among nodes.
    """
    many = {}
    ahead = {node: [] for node in nodes}
    for node in nodes:
        ons = {behind: True for _, behind in go_on(node)}
        many[node] = len(ons)
        for behind in ons:
            ahead[behind].append(node)
    best = {node: 0 for node in ahead}
    ranks = {}
    todo = [node for node in ahead if many[node] == 0]
    while todo:
        node = todo.pop()
        ranks[node] = best[node]
        for before in ahead[node]:
            best[before] = max(best[before], ranks[node] + 1)
            many[before] -= 1
            if many[before] == 0:
                todo.append(before)
    return ranks


def layers_from(teller, begun_with, wanted):
    """A list of dicts: of some states, and behind each of the letters wanted of all states that are come to.

    wanted has for each tick a tuple with a letter for each ear, or None in its place if any letter will do. Each
    state behind a tick has the pair of a state ahead and of the move from there.
    """
    layers = [{state: None for state in begun_with}]
    for letters in wanted:
        newer = {}
        for state in layers[-1]:
            for move, told, behind in teller.steps(state):
                if behind not in newer and fits(told, letters):
                    newer[behind] = (state, move)
        layers.append(newer)
    return layers


def moves_to(layers, state):
    """The tuple of the moves that lead through layers to a state of the last one."""
    moves = []
    for layer in reversed(layers[1:]):
        state, move = layer[state]
        moves.append(move)
    return tuple(reversed(moves))

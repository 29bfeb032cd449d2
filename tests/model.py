"""Games, plays, views and letters told in a second way, by Python's own expressions; for the tests."""

import functools
import itertools

SIGNS = {"sum": "+", "less": "-", "same": "==", "below": "<", "both": "and", "either": "or"}
LEAVES = {"draw": "drawn", "deed": "deed", "done": "done", "yes": "True"}


def python_of(thing):
    """The expression of Python that is worth what a term is, or is true where a condition holds."""
    word, *parts = thing
    if word == "is":
        return str(parts[0])
    if word in ("cell", "was"):
        return f"{'now' if word == 'cell' else 'was'}[{parts[0]}]"
    if word == "choose":
        return "({1} if {0} else {2})".format(*map(python_of, parts))
    if word == "not":
        return f"(not {python_of(parts[0])})"
    if word in SIGNS:
        return f"({python_of(parts[0])} {SIGNS[word]} {python_of(parts[1])})"
    return LEAVES[word]


@functools.lru_cache(2000)
def told(thing):
    """A function of the five items of a moment that tells the worth of a thing, or whether it holds."""
    return eval("lambda now, was, deed, drawn, done: " + python_of(thing))


def place_of_wires(game):
    """The place at which entries of wires stand."""
    return (len(game[1]), ("deed", "done", "draw", "was"))


class Model:
    """One game."""

    def __init__(self, game):
        self.game = game
        self.first = tuple(first for _, first in game[1])

    def all_states(self):
        """All states, whether they come or not."""
        return list(itertools.product(*[range(size) for size, _ in self.game[1]]))

    def moves(self, state):
        """A dict of the moves of a state: each with whether it is done, and the state behind it."""
        found = {}
        for number, (doer, outcomes, guard, effects, _) in enumerate(self.game[2]):
            if told(guard)(state, state, 0, 0, False):
                for drawn in range(outcomes):
                    new = {c: told(term)(state, state, 0, drawn, False) for c, term in effects}
                    behind = [new.get(c, old) % self.game[1][c][0] for c, old in enumerate(state)]
                    found[number, drawn] = (True, tuple(behind))
            elif doer in range(self.game[0]):
                found[number, 0] = (False, state)
        return found

    def far(self):
        """A dict of the states that come: each with the least number of moves that lead there."""
        found = {self.first: 0}
        todo = [self.first]
        for state in todo:
            for _, behind in self.moves(state).values():
                if behind not in found:
                    found[behind] = found[state] + 1
                    todo.append(behind)
        return found

    def through(self, play):
        """The states that a play leads through, the first one and the last one, too."""
        states = [self.first]
        for move in play:
            states.append(self.moves(states[-1])[move][1])
        return states

    def plays(self, most):
        """All plays of at most so many moves."""
        found = [()]
        layer = [((), self.first)]
        for _ in range(most):
            layer = [(play + (move,), behind) for play, state in layer
                     for move, (_, behind) in self.moves(state).items()]
            found.extend(play for play, _ in layer)
        return found

    def some_play(self, random, many):
        """A play of so many moves, or of fewer if the game ends."""
        state, play = self.first, []
        for _ in range(many):
            here = self.moves(state)
            if not here:
                break
            play.append(random.choice(sorted(here)))
            state = here[play[-1]][1]
        return tuple(play)

    def sight(self, player, state):
        """What a player sees of a state."""
        shows = [told(condition)(state, state, 0, 0, False) for condition in self.game[3][player]]
        return tuple(value if shown else None for shown, value in zip(shows, state))

    def view(self, player, play):
        """What a player sees of a play."""
        states = self.through(play)
        pairs = [(None, self.sight(player, self.first))]
        for ahead, move, behind in zip(states, play, states[1:]):
            what = None
            if self.moves(ahead)[move][0]:
                if player in self.game[2][move[0]][4]:
                    what = move[0]
            elif self.game[2][move[0]][0] == player:
                what = ("no", move[0])
            pairs.append((what, self.sight(player, behind)))
        return tuple(pairs)

    def moments(self, play):
        """The moments of the beginning and of each tick."""
        states = self.through(play)
        found = [(self.first, self.first, len(self.game[2]), 0, True)]
        for ahead, (deed, drawn), behind in zip(states, play, states[1:]):
            done = self.moves(ahead)[deed, drawn][0]
            found.append((behind, ahead, deed, drawn, True) if done else (ahead, ahead, deed, 0, False))
        return found

    def letter(self, rule, moment):
        """The letter that a rule tells at a moment."""
        return tuple(told(what)(*moment) if told(when)(*moment) else None for when, what in rule)

    def row(self, rule, play):
        """The letters that a rule tells of a play."""
        return tuple(self.letter(rule, moment) for moment in self.moments(play))

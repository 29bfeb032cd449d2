"""Tries and what is firm of them, told in a second way; for the tests."""

from tests.model import Model
from tests.things import Things

REFUSED = ("refused",)


class Trying(Model):
    """One game, a player, states that are known, and tries."""

    def __init__(self, game, player, known, tries):
        super().__init__(game)
        self.player, self.known, self.tries = player, known, tries
        self.arguments = (game, player, known, tries)
        self.kept = {}

    def result(self, state, move):
        """The result of a move, by what its effects set."""
        done, behind = self.moves(state)[move]
        return ("set", tuple((cell, behind[cell]) for cell, _ in self.game[2][move[0]][3])) if done else REFUSED

    def rows_alone(self, state, tries):
        """A dict of all rows of results from a state, with the state behind each."""
        if not tries:
            return {(): state}
        found = {}
        for move, (_, behind) in self.moves(state).items():
            if move[0] == tries[0]:
                for row, last in self.rows_alone(behind, tries[1:]).items():
                    found[(self.result(state, move),) + row] = last
        return found

    def ons(self, pair):
        """The pairs of a move and the pair behind it, from a pair."""
        if pair not in self.kept:
            many, state = pair
            found = []
            for move, (_, behind) in sorted(self.moves(state).items()):
                if self.game[2][move[0]][0] != self.player:
                    found.append((move, (many, behind)))
                elif self.tries[many:many + 1] == move[:1]:
                    found.append((move, (many + 1, behind)))
            self.kept[pair] = found
        return self.kept[pair]

    def far(self):
        """A dict of the pairs of the lot, each with how few moves lead there."""
        found = {(0, state): 0 for state in self.known}
        todo = list(found)
        for pair in todo:
            for _, behind in self.ons(pair):
                if behind not in found:
                    found[behind] = found[pair] + 1
                    todo.append(behind)
        return found

    def tried(self, pair):
        """The results of the try that is due at a pair, by moves."""
        many, state = pair
        return {move: self.result(state, move) for move, _ in self.ons(pair) if self.tries[many:many + 1] == move[:1]}

    def results(self, pairs):
        """For each try the results that its moves have at pairs."""
        found = [set() for _ in self.tries]
        for pair in pairs:
            for told in self.tried(pair).values():
                found[pair[0]].add(told)
        return found

    def cells(self, states):
        """What is seen alike in all states."""
        found = []
        for items in zip(*[self.sight(self.player, state) for state in states]):
            found.append(("hidden" if items[0] is None else ("seen", items[0])) if len(set(items)) == 1 else None)
        return tuple(found)

    def is_wrong(self, shown, pair):
        """Whether some move of the try that is due at a pair has another result than is shown."""
        told = self.tried(pair).values()
        return any(shown[pair[0]] not in (None, one) for one in told)

    def is_disturbed(self, pair):
        """The moves of others that disturb at a pair."""
        many, state = pair
        if many == len(self.tries):
            return []
        here = set(self.rows_alone(state, self.tries[many:]))
        return [move for move, behind in self.ons(pair)
                if behind[0] == many and set(self.rows_alone(behind[1], self.tries[many:])) != here]


def some_trying(seed, many):
    """So many Tryings of tiny games."""
    things = Things(seed)
    found = []
    while len(found) < many:
        game = things.tiny_game()
        players = sorted({deed[0] for deed in game[2]} - {None})
        if not players:
            continue
        player = things.random.choice(players)
        deeds = [number for number, deed in enumerate(game[2]) if deed[0] == player]
        tries = tuple(things.random.choice(deeds) for _ in range(things.random.randint(1, 4)))
        states = Model(game).all_states()
        if things.random.random() < 0.5:
            states = sorted(Model(game).far())
        known = tuple(sorted(things.random.sample(states, min(len(states), things.random.randint(1, 3)))))
        found.append(Trying(game, player, known, tries))
    return found

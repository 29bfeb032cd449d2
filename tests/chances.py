"""Odds and leanings, told in a second way: by all plays that go by some deeds, with fractions; for the tests."""

from fractions import Fraction

from tests.model import Model
from tests.things import Things


def as_odds(fraction):
    """Odds of a fraction."""
    return (fraction.numerator, fraction.denominator)


class Chances(Model):
    """One game and a wire of it."""

    def __init__(self, game, wire):
        super().__init__(game)
        self.wire = wire
        self.kept = {}

    def plays_by(self, deeds):
        """A list of the triples of a play that goes by deeds, its weight, and the state behind it."""
        layer = [((), Fraction(1), self.first)]
        for deed in deeds:
            newer = []
            for play, weight, state in layer:
                for move, (done, behind) in sorted(self.moves(state).items()):
                    if move[0] == deed:
                        share = Fraction(1, self.game[2][deed][1]) if done else 1
                        newer.append((play + (move,), weight * share, behind))
            layer = newer
        return layer

    def heard(self, ears, play):
        """The row that ears hear of a play."""
        return tuple(zip(*[self.row(self.wire[ear], play) for ear in ears]))

    def heard_by_deeds(self, ears, deeds):
        """A dict of the rows that are heard by plays that go by deeds: of each the weights of states; least plays first."""
        found = {}
        for play, weight, state in self.plays_by(deeds):
            states = found.setdefault(self.heard(ears, play), {})
            states[state] = states.get(state, 0) + weight
        return found

    def both_sides(self, player, play):
        """The weights of states behind the plays by the same deeds that the player sees, and hears, as this one."""
        deeds = tuple(deed for deed, _ in play)
        if (player, deeds) not in self.kept:
            told = [(weight, state, self.view(player, other), self.row(self.wire[player], other))
                    for other, weight, state in self.plays_by(deeds)]
            self.kept[player, deeds] = told
        seen, row = self.view(player, play), self.row(self.wire[player], play)
        sides = ({}, {})
        for weight, state, its_view, its_row in self.kept[player, deeds]:
            for side, alike in zip(sides, (its_view == seen, its_row == row)):
                if alike:
                    side[state] = side.get(state, 0) + weight
        return sides

    def leans(self, player, play):
        """Whether the wire leans for the player behind a play."""
        seen, heard = self.both_sides(player, play)
        odds = [{state: weight / sum(side.values()) for state, weight in side.items()} for side in (seen, heard)]
        return odds[0] != odds[1]


def some_chances(seed, many, least=1):
    """So many games of few states with draws of up to four outcomes, a wire of each, and some deeds."""
    things = Things(seed)
    found = []
    while len(found) < many:
        game = things.tiny_game()
        deeds = tuple((doer, things.random.choice((outcomes, things.random.randint(1, 4))), guard, effects, seen)
                      for doer, outcomes, guard, effects, seen in game[2])
        game = game[:2] + (deeds,) + game[3:]
        tried = tuple(things.random.randrange(len(deeds)) for _ in range(things.random.randint(least, 4)))
        found.append((Chances(game, things.tiny_wire(game)), things.ears(game), tried))
    return found

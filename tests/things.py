"""Terms, conditions, games and values of any kind for the tests; the same ones in each run."""

import math
import random

ALL_WORDS = ("deed", "done", "draw", "was")
YES = ("yes",)
ZERO = ("is", 0)
OPEN_NOW = ("same", ("cell", 1), ("is", 1))
DEAL = (None, 3, ("not", OPEN_NOW), ((0, ("draw",)),), (0,))
SHOW = (0, 1, YES, ((1, ("is", 1)),), (0, 1))
CARD = (2, ((3, 0), (2, 0)), (DEAL, SHOW), ((YES, YES), (OPEN_NOW, YES)))
# The games of the document's examples on plays and on wires.
ASK = (1, 2, OPEN_NOW, ((0, ("sum", ("cell", 0), ("draw",))), (1, ("less", ("cell", 1), ("is", 1)))), (0, 1))
ASKED_CARD = CARD[:2] + ((DEAL, SHOW, ASK),) + CARD[3:]
OVER = (2, ((2, 0),), ((None, 1, ("same", ("cell", 0), ZERO), ((0, ("is", 1)),), ()),), ((YES,), (YES,)))
CURTAIN = ("same", ("cell", 0), ("is", 1))
TURN = (0, 1, YES, ((0, ("less", ("is", 1), ("cell", 0))),), (0,))
DRAW = (1, 2, CURTAIN, ((1, ("draw",)),), (0, 1))
HIDE = (2, ((2, 0), (3, 1)), (TURN, DRAW), ((YES, CURTAIN), (("not", YES), YES)))


def nested(depth, made):
    """A value in which `made` wraps the last value so many times."""
    value = None
    for _ in range(depth):
        value = made(value)
    return value


# Values of every kind, none of which is a term, a condition, a text of one, a game, a text of one or a naming.
ODD_VALUES = (
    None, True, False, 0, 1, -1, 10 ** 399, -(10 ** 399),
    "", " ", "\n", "\n\n", "-", "is", "sum", "game", "(" * 20000, "not " * 5000, "x" * 20000, "players", "\\",
    (), ((),), (None,), (True,), (0,), ("",), ("is",), ("none",), ("is", None), ("is", "0"), (("is", 0),),
    (("is",), 0), ([], 0), ({}, 0), (("sum", "sum"), 1, 2), ([], [], []), ((), (), ()), (None, None, None),
    ("players", "cells", "deeds", "sights"), (2, (), (), ()), (0, 0, 0, 0), (True, True, True, True),
    [], [0], ["is", 0], ["yes"], [[]], {}, {"is": 0}, {0: "is"}, {(): [], None: {}}, {True: False},
    nested(40, lambda value: (value,)), nested(40, lambda value: [value]), nested(40, lambda value: {"a": value}),
    nested(39, lambda value: ("not", value)), tuple(range(8999)), ["is"] * 8999, ("sum",) + ((),) * 8990,
)


class Things:
    """Makes terms, conditions and games at random, by a seed."""

    def __init__(self, seed):
        self.random = random.Random(seed)

    def term(self, place, deep):
        """A term at place with no way of more than so many items."""
        cells, words = place
        leaves = ["is"] + (["cell"] if cells else []) + [word for word in words if word != "done"]
        if deep > 0 and self.random.random() < 0.7:
            word = self.random.choice(("sum", "less", "choose"))
            ahead = (self.condition(place, deep - 1),) if word == "choose" else ()
            return (word,) + ahead + (self.term(place, deep - 1), self.term(place, deep - 1))
        word = self.random.choice(leaves)
        if word == "is":
            return (word, self.random.choice((0, 1, 9, 10, 99, self.random.randrange(100))))
        if word in ("cell", "was"):
            return (word, self.random.randrange(cells)) if cells else ZERO
        return (word,)

    def condition(self, place, deep):
        """A condition at place with no way of more than so many items."""
        if deep > 0 and self.random.random() < 0.8:
            word = self.random.choice(("same", "below", "not", "both", "either"))
            part = self.term if word in ("same", "below") else self.condition
            return (word,) + tuple(part(place, deep - 1) for _ in range(1 if word == "not" else 2))
        return self.random.choice((YES, ("done",))) if "done" in place[1] else YES

    def game(self, deep=2):
        """A game."""
        players = self.random.randint(2, 4)
        sizes = [self.random.randint(2, 6) for _ in range(self.random.randint(1, 6))]
        cells = tuple((size, self.random.randrange(size)) for size in sizes)
        place = (len(cells), ())
        deeds = tuple(self.deed(players, len(cells), deep) for _ in range(self.random.randint(1, 8)))
        sights = tuple(tuple(self.condition(place, deep) for _ in cells) for _ in range(players))
        return (players, cells, deeds, sights)

    def deed(self, players, cells, deep):
        """A deed of a game of so many players and cells."""
        doer = self.random.choice((None,) + tuple(range(players)))
        seen = [player for player in range(players) if player == doer or self.random.random() < 0.5]
        changed = [cell for cell in range(cells) if self.random.random() < 0.4]
        effects = tuple((cell, self.term((cells, ("draw",)), deep)) for cell in changed)
        return (doer, self.random.randint(1, 4), self.condition((cells, ()), deep), effects, tuple(seen))

    def small_game(self, most, deep=3):
        """A game of at most so many states, which come or not."""
        while True:
            game = self.game(deep)
            if math.prod(size for size, _ in game[1]) <= most:
                return game

    def tiny_condition(self, cells, words=()):
        """A condition that asks a cell, or one of words."""
        cell = self.random.randrange(cells)
        same = ("same", ("cell", cell), ("is", self.random.randrange(2)))
        some = [YES, same, same, ("not", same), ("below", ("cell", cell), ("cell", self.random.randrange(cells)))]
        some += [("done",)] if "done" in words else []
        some += [("same", ("deed",), ("is", self.random.randrange(3)))] if "deed" in words else []
        some += [("below", ("was", cell), ("cell", cell))] if "was" in words else []
        return self.random.choice(some)

    def tiny_term(self, cells, words=("draw",)):
        """A term that asks a cell, or one of words."""
        cell, other = ("cell", self.random.randrange(cells)), ("cell", self.random.randrange(cells))
        some = [("is", self.random.randrange(2)), cell, ("sum", cell, ("is", 1)), ("less", other, cell)]
        some += [("draw",), ("sum", cell, ("draw",))] * 2 if words == ("draw",) else []
        some += [("choose", ("same", ("deed",), ("is", 0)), ("is", 0), ("is", 1)), cell, cell] if "deed" in words else []
        some += [("was", other[1]), ("choose", ("done",), cell, ("was", 0))] if "was" in words else []
        return self.random.choice(some)

    def tiny_game(self, players=3):
        """A game of few cells and deeds, in which something can be known and something can not."""
        players = self.random.randint(2, players)
        cells = tuple((self.random.randint(2, 3), self.random.randrange(2)) for _ in range(self.random.randint(2, 3)))
        deeds = []
        for _ in range(self.random.randint(2, 3)):
            doer = self.random.choice((None, None) + tuple(range(players)))
            seen = tuple(p for p in range(players) if p == doer or self.random.random() < 0.4)
            changed = [c for c in range(len(cells)) if self.random.random() < 0.6]
            effects = tuple((c, self.tiny_term(len(cells))) for c in changed)
            guard = YES if self.random.random() < 0.5 else self.tiny_condition(len(cells))
            deeds.append((doer, self.random.randint(1, 2), guard, effects, seen))
        sights = tuple(tuple(self.random.choice((YES, ("not", YES), self.tiny_condition(len(cells)))) for _ in cells)
                       for _ in range(players))
        return (players, cells, tuple(deeds), sights)

    def tiny_wire(self, game, most=2):
        """A wire of game that tells little."""
        rules = []
        for _ in range(game[0]):
            entries = range(self.random.choice((0, 1, 1, most)))
            rules.append(tuple((self.tiny_condition(len(game[1]), ALL_WORDS), self.tiny_term(len(game[1]), ALL_WORDS))
                               for _ in entries))
        return tuple(rules)

    def ears(self, game):
        """An ascending tuple of one player or more."""
        return tuple(sorted(self.random.sample(range(game[0]), self.random.randint(1, game[0]))))

    def wire(self, game, deep=2):
        """A wire of game."""
        place = (len(game[1]), ALL_WORDS)
        rules = []
        for _ in range(game[0]):
            many = self.random.randint(0, 7)
            rules.append(tuple((self.condition(place, deep), self.term(place, deep)) for _ in range(many)))
        return tuple(rules)

    def naming(self, game):
        """A naming of game."""
        counts = (game[0], len(game[1]), len(game[2]))
        return tuple(tuple(self.random.sample(range(many), many)) for many in counts)


# By what kind of part each word goes on; told here anew, so that the tests do not lean on the program.
PART_KINDS = {
    "sum": "tt", "less": "tt", "choose": "ctt", "same": "tt", "below": "tt", "not": "c", "both": "cc", "either": "cc",
}


def parts_of(thing, way=()):
    """The pairs of the way of a part and the part, in the order of the ways."""
    found = [(way, thing)]
    for number in range(1, 1 + len(PART_KINDS.get(thing[0], ""))):
        found.extend(parts_of(thing[number], way + (number,)))
    return found


def with_part(thing, way, part):
    """The thing with another part at way."""
    if way == ():
        return part
    return thing[:way[0]] + (with_part(thing[way[0]], way[1:], part),) + thing[way[0] + 1:]

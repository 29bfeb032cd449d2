"""Halls, led in a second way: by what was sent, and by which numbers came to each device; for the tests."""

from collections import Counter

from tests.knowing import Knowing, as_set, sure_of
from tests.model import told
from tests.trying import Trying

WORDS = {"offer": 2, "take": 2, "serve": 2, "come": 2, "twice": 2, "lose": 2, "ask": 2, "mend": 1, "join": 1}


class Wrong(Exception):
    """An edit that is refused, with its word."""


class Going(Knowing):
    """One hall: its play, and for each player its tries, its road, what came to its device, and its guests."""

    def __init__(self, game, wire, rule):
        super().__init__(game, wire, range(game[0]))
        self.rule, self.play, self.played = rule, (), [self.first]
        self.tries = [() for _ in range(game[0])]
        self.roads = [Counter({0: 1}) for _ in range(game[0])]
        self.got = [set() for _ in range(game[0])]
        self.joined = [() for _ in range(game[0])]

    def on_the_way(self, player):
        """The tries that are not taken."""
        return self.tries[player][self.taken(player, len(self.play)):]

    def taken(self, player, tick):
        """How many tries of a player were taken up to a tick."""
        return sum(self.game[2][deed][0] == player for deed, _ in self.play[:max(tick, 0)])

    def letters(self, player):
        """The letters that were sent to a player."""
        return self.row(self.wire[player], self.play)

    def is_player(self, player):
        """Whether there is such a player."""
        return type(player) is int and 0 <= player < self.game[0]

    def edit(self, word, *numbers):
        """Lets an edit be; raises Wrong(word) if it is refused."""
        if word == "serve":
            return self.move(numbers, None)
        player = numbers[0]
        if not self.is_player(player):
            raise Wrong("player")
        return getattr(self, word)(*numbers)

    def move(self, move, doer):
        """Lets a move be made by a doer."""
        here = self.moves(self.played[-1])
        if not all(type(number) is int for number in move) or move not in here or self.game[2][move[0]][0] != doer:
            raise Wrong("move")
        self.play += (move,)
        self.played.append(here[move][1])
        for road in self.roads:
            road[len(self.play)] += 1

    def offer(self, player, deed):
        """A try."""
        if type(deed) is not int or deed not in range(len(self.game[2])) or self.game[2][deed][0] != player:
            raise Wrong("deed")
        if len(self.on_the_way(player)) == 4:
            raise Wrong("way")
        self.tries[player] += (deed,)

    def take(self, player, drawn):
        """The first try on the way is made."""
        if not self.on_the_way(player):
            raise Wrong("way")
        self.move((self.on_the_way(player)[0], drawn), player)

    def copy(self, player, number):
        """There has to be a copy on the road."""
        if type(number) is not int or self.roads[player][number] == 0:
            raise Wrong("number")

    def come(self, player, number):
        """A copy comes."""
        self.copy(player, number)
        self.roads[player][number] -= 1
        self.got[player].add(number)

    def twice(self, player, number):
        """One copy more."""
        self.copy(player, number)
        self.roads[player][number] += 1

    def lose(self, player, number):
        """One copy less."""
        self.copy(player, number)
        self.roads[player][number] -= 1

    def ask(self, player, number):
        """A copy is sent anew."""
        if type(number) is not int or number not in range(len(self.play) + 1):
            raise Wrong("number")
        self.roads[player][number] += 1

    def mend(self, player):
        """All that lacks comes."""
        if not self.lacks(player):
            raise Wrong("whole")
        self.got[player].update(self.lacks(player))

    def join(self, player):
        """One guest more."""
        if len(self.joined[player]) == 4:
            raise Wrong("guests")
        self.joined[player] += ((len(self.play), self.join_letter(self.played[-1])),)

    def join_letter(self, state):
        """The join letter in a state."""
        moment = (state, state, 0, 0, False)
        return tuple(told(what)(*moment) if told(when)(*moment) else None for when, what in self.rule)

    def road(self, player):
        """The numbers on the road."""
        return tuple(sorted(self.roads[player].elements()))

    def lacks(self, player):
        """The numbers that lack of what came."""
        return tuple(number for number in range(max(self.got[player], default=0)) if number not in self.got[player])

    def tick(self, player):
        """The tick up to which all came."""
        lacking = [number for number in range(len(self.play) + 2) if number not in self.got[player]]
        return lacking[0] - 1

    def device(self, player):
        """The device behind all that came."""
        letters, last = self.letters(player), self.tick(player)
        return (letters[:last + 1], tuple((number, letters[number]) for number in sorted(self.got[player])
                                          if number > last))

    def known_by(self, player, numbers, most):
        """The states behind all plays of so many ticks of which a player hears what was sent, at certain numbers."""
        letters, some = self.letters(player), (self.first,)
        for number in range(1, most + 1):
            some = as_set(behind for state in some for _, heard, behind in self.moves_heard(state)
                          if number not in numbers or heard[player] == letters[number])
        return some

    def shown(self, player):
        """What the device shows of its own tick."""
        last = self.tick(player)
        return None if last < 0 else sure_of(self.known_by(player, self.got[player], last))

    def ahead(self, player):
        """What the device shows of the latest tick that it heard of."""
        if not self.got[player]:
            return None
        return sure_of(self.known_by(player, self.got[player], max(self.got[player])))

    def open_tries(self, player):
        """The tries of which the device does not know that they were taken."""
        return self.tries[player][self.taken(player, self.tick(player)):]

    def firm(self, player):
        """What is firm of the first open tries."""
        last = self.tick(player)
        if last < 0:
            return None
        tries = self.open_tries(player)[:4]
        if not tries:
            return ((), None)
        trying = Trying(self.game, player, self.known_by(player, self.got[player], last), tries)
        lot = trying.far()
        row = tuple(min(found) if len(found) == 1 else None for found in trying.results(lot))
        last = len(tries) - 1
        then = [behind[1] for pair in lot for _, behind in trying.ons(pair) if (pair[0], behind[0]) == (last, last + 1)]
        return (row, trying.cells(then))

    def guest_shown(self, player, place):
        """What is sure to a guest."""
        tick, letter = self.joined[player][place]
        letters = self.letters(player)
        if not hasattr(self, "come_to"):
            self.come_to = self.far()
        some = as_set(state for state in self.come_to if self.join_letter(state) == letter)
        for number in range(tick + 1, len(self.play) + 1):
            some = as_set(behind for state in some for _, heard, behind in self.moves_heard(state)
                          if heard[player] == letters[number])
        return sure_of(some)

    def elder_shown(self, player):
        """What is sure to who heard all."""
        return sure_of(self.known_by(player, range(len(self.play) + 1), len(self.play)))

    def watched_shown(self, player, lag):
        """What is sure to a watcher."""
        letters, seen = self.letters(player), max(len(self.play) - lag, 0)
        some = (self.played[seen],)
        for number in range(seen + 1, len(self.play) + 1):
            some = as_set(behind for state in some for _, heard, behind in self.moves_heard(state)
                          if heard[player] == letters[number])
        return sure_of(some)


def some_edit(random, going):
    """A call of an edit that can be there, more often than not."""
    word = random.choice(("offer", "offer", "take", "take", "serve", "serve", "serve", "come", "come", "come", "come",
                          "twice", "lose",
                          "ask", "mend", "join"))
    player = random.randrange(going.game[0])
    if random.random() < 0.03:
        player = random.choice((-1, going.game[0], True, None, "0"))
    if word == "serve":
        return (word, random.randrange(len(going.game[2])), random.randrange(2))
    if word == "offer":
        own = [number for number, deed in enumerate(going.game[2]) if deed[0] == player] or [0]
        return (word, player, random.choice(own + [random.randrange(-1, len(going.game[2]) + 1)]))
    if word == "take":
        return (word, player, random.randrange(2))
    if WORDS[word] == 1:
        return (word, player)
    road = going.road(player) if going.is_player(player) else ()
    if random.random() < 0.1 or not road:
        return (word, player, random.choice((0, len(going.play), len(going.play) + 1, -1, False, None)))
    return (word, player, random.choice(road))

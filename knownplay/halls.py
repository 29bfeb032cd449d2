"""Halls: a game as it is played, with a server, and for each player a seat, a road to it and a device."""

from knownplay.bounds import MAX_EDITS, MAX_GUESTS, MAX_TRIES
from knownplay.errors import BadGame, BadRule, BadWire, NothingToRedo, NothingToUndo, Refused, TooManyEdits, Unfit
from knownplay.firmness import firm_row, firm_then
from knownplay.games import first_state, game_error
from knownplay.gaps import known_by_gaps
from knownplay.joiners import join_letter, joined, rule_error
from knownplay.lies import finders
from knownplay.plays import step
from knownplay.roads import gap_row, lacking, taken
from knownplay.sets import gone_on, known, sure
from knownplay.values import is_count, is_whole
from knownplay.watchers import watched
from knownplay.wires import heard_by, wire_error

# A seat is a tuple of its road, its device, its tries and its guests; these are their places, and a new one.
ROAD = 0
DEVICE = 1
TRIES = 2
GUESTS = 3
NEW_SEAT = ((0,), ((), ()), (), ())


def with_item(items, place, item):
    """The tuple items with item at place."""
    return (*items[:place], item, *items[place + 1:])


class Hall:
    """A game that is played by a wire and a rule for joiners, and all edits of it so far.

    scenes has for the beginning and for each edit, those that were taken back too, the call, and the play, the state
    and the seats behind it: so going back and forth needs to do nothing anew.
    """

    def __init__(self, game, wire, rule):
        error = game_error(game)
        if error is not None:
            raise BadGame(error)
        error = wire_error(game, wire)
        if error is not None:
            raise BadWire(error)
        error = rule_error(game, rule)
        if error is not None:
            raise BadRule(error)
        self.game = game
        self.wire = wire
        self.rule = rule
        self.scenes = [(None, (), first_state(game), (NEW_SEAT,) * game[0])]
        self.turn_to(0)

    def __eq__(self, other):
        if not isinstance(other, Hall):
            return False
        return self.whole() == other.whole()

    def whole(self):
        """All by which halls are equal; how many tries are taken is told by the play."""
        return (self.game, self.wire, self.rule, self.play, self.seats)

    def turn_to(self, version):
        """Makes the hall as it is behind so many of its edits."""
        _, self.play, self.state, self.seats = self.scenes[version]
        self.version = version
        self.undone = len(self.scenes) - 1 - version
        self.edits = tuple([call for call, _, _, _ in self.scenes[1:version + 1]])

    def check_room(self):
        """Raises TooManyEdits() if as many edits stand as may."""
        if self.version >= MAX_EDITS:
            raise TooManyEdits()

    def edit(self, call, play, state, seats):
        """The version behind an edit, which leads to this play, this state and these seats."""
        self.check_room()
        self.scenes = [*self.scenes[:self.version + 1], (call, play, state, seats)]
        self.turn_to(self.version + 1)
        return self.version

    def edit_seat(self, call, player, place, item):
        """The version behind an edit that puts an item at a place of the player's seat."""
        seats = with_item(self.seats, player, with_item(self.seats[player], place, item))
        return self.edit(call, self.play, self.state, seats)

    def edit_play(self, call, move, found):
        """The version behind an edit by which a move is made; found is what it leads to, as step tells."""
        play = (*self.play, move)
        seats = [with_item(seat, ROAD, (*seat[ROAD], len(play))) for seat in self.seats]
        return self.edit(call, play, found[1], tuple(seats))

    def is_player(self, player):
        """Whether player, any value, is a player of the game."""
        return is_whole(player, 0, self.game[0] - 1)

    def check_player(self, player):
        """Raises Refused("player") if player, any value, is none."""
        if not self.is_player(player):
            raise Refused("player")

    def check_copy(self, player, number):
        """Raises Refused if player, any value, is none, or if no copy of number, any value, is on its road."""
        self.check_player(player)
        if not is_count(number) or number not in self.seats[player][ROAD]:
            raise Refused("number")

    def offer(self, player, deed):
        """Tries a deed of the player; all arguments of this and of all edits may be any values."""
        self.check_player(player)
        if not is_whole(deed, 0, len(self.game[2]) - 1) or self.game[2][deed][0] != player:
            raise Refused("deed")
        if len(self.on_the_way(player)) >= MAX_TRIES:
            raise Refused("way")
        return self.edit_seat(("offer", player, deed), player, TRIES, (*self.seats[player][TRIES], deed))

    def take(self, player, drawn):
        """Makes the move of the first try of the player that is on the way, with this drawn number."""
        self.check_player(player)
        tries = self.on_the_way(player)
        if not tries:
            raise Refused("way")
        move = (tries[0], drawn)
        found = step(self.game, self.state, move)
        if found is None:
            raise Refused("move")
        return self.edit_play(("take", player, drawn), move, found)

    def serve(self, deed, drawn):
        """Makes a move with a deed of the server's own."""
        move = (deed, drawn)
        found = step(self.game, self.state, move)
        if found is None or self.game[2][deed][0] is not None:
            raise Refused("move")
        return self.edit_play(("serve", deed, drawn), move, found)

    def come(self, player, number):
        """Lets a copy of this number come to the player's device."""
        self.check_copy(player, number)
        road, device, tries, guests = self.seats[player]
        device = taken(device, number, heard_by(self.game, self.wire, player, self.play)[number])
        at = road.index(number)
        seat = (road[:at] + road[at + 1:], device, tries, guests)
        return self.edit(("come", player, number), self.play, self.state, with_item(self.seats, player, seat))

    def twice(self, player, number):
        """Lets one more copy of this number be on the road."""
        self.check_copy(player, number)
        return self.edit_road(("twice", player, number), [*self.seats[player][ROAD], number])

    def lose(self, player, number):
        """Lets a copy of this number be gone."""
        self.check_copy(player, number)
        road = self.seats[player][ROAD]
        at = road.index(number)
        return self.edit_road(("lose", player, number), road[:at] + road[at + 1:])

    def ask(self, player, number):
        """Lets one more copy of this number, which was sent, lie on the road."""
        self.check_player(player)
        if not is_whole(number, 0, len(self.play)):
            raise Refused("number")
        return self.edit_road(("ask", player, number), [*self.seats[player][ROAD], number])

    def edit_road(self, call, numbers):
        """The version behind an edit that leaves copies of these numbers on the road of the player of call."""
        return self.edit_seat(call, call[1], ROAD, tuple(sorted(numbers)))

    def mend(self, player):
        """Lets all that lacks come to the player's device, sent anew."""
        self.check_player(player)
        device = self.seats[player][DEVICE]
        numbers = lacking(device)
        if not numbers:
            raise Refused("whole")
        row = heard_by(self.game, self.wire, player, self.play)
        for number in numbers:
            device = taken(device, number, row[number])
        return self.edit_seat(("mend", player), player, DEVICE, device)

    def join(self, player):
        """Lets one more guest join at the player's seat; TooMany as by joined."""
        self.check_player(player)
        guests = self.seats[player][GUESTS]
        if len(guests) >= MAX_GUESTS:
            raise Refused("guests")
        self.check_room()
        letter = join_letter(self.game, self.rule, self.state)
        # What a guest knows has to be told later on, so it cannot join where that is too much.
        joined(self.game, self.rule, letter)
        return self.edit_seat(("join", player), player, GUESTS, (*guests, (len(self.play), letter)))

    def undo(self):
        """Takes the last edit back."""
        if self.version == 0:
            raise NothingToUndo()
        self.turn_to(self.version - 1)
        return self.version

    def redo(self):
        """Does the last edit that was taken back again."""
        if self.undone == 0:
            raise NothingToRedo()
        self.turn_to(self.version + 1)
        return self.version

    def twin(self):
        """A hall with the same edits, and the same ones taken back."""
        other = Hall(self.game, self.wire, self.rule)
        other.scenes = list(self.scenes)
        other.turn_to(self.version)
        return other

    def seat(self, player):
        """The seat of player, any value; Unfit() if there is no such player. So for all that is asked of a hall."""
        if not self.is_player(player):
            raise Unfit()
        return self.seats[player]

    def sent(self, player):
        """The tuple of the letters that were sent to the player."""
        self.seat(player)
        return heard_by(self.game, self.wire, player, self.play)

    def road(self, player):
        """The ascending tuple of the numbers on the player's road, each as often as copies of it lie there."""
        return self.seat(player)[ROAD]

    def device(self, player):
        """The player's device."""
        return self.seat(player)[DEVICE]

    def tick(self, player):
        """The device's own tick, -1 if it has no letter in its row."""
        return len(self.device(player)[0]) - 1

    def lacks(self, player):
        """The numbers that the device knows to lack."""
        return lacking(self.device(player))

    def tries_behind(self, player, tick):
        """The tuple of the deeds of the tries that are not taken up to a tick."""
        taken_so_far = [deed for deed, _ in self.play[:tick] if self.game[2][deed][0] == player]
        return self.seat(player)[TRIES][len(taken_so_far):]

    def on_the_way(self, player):
        """The tuple of the deeds of the tries that are on the way."""
        return self.tries_behind(player, len(self.play))

    def open_tries(self, player):
        """The tuple of the deeds of the tries of which the device does not know that they are taken."""
        return self.tries_behind(player, max(self.tick(player), 0))

    def known_by(self, player, row):
        """The set known by a row of the player's letters."""
        return known(self.game, self.wire, (player,), tuple([(letter,) for letter in row]))

    def shown(self, player):
        """What is sure of the device's own tick; None if there is none."""
        row = self.device(player)[0]
        return sure(self.game, self.known_by(player, row)) if row else None

    def ahead(self, player):
        """What is sure of the tick of the greatest number that the device has; None if it has none."""
        row = gap_row(self.device(player))
        return sure(self.game, known_by_gaps(self.game, self.wire, player, row)) if row else None

    def firm(self, player):
        """What is firm of the first open tries, results and what is seen behind them; None if the row is ()."""
        row = self.device(player)[0]
        tries = self.open_tries(player)[:MAX_TRIES]
        if not row:
            return None
        if not tries:
            return ((), None)
        some = self.known_by(player, row)
        return (firm_row(self.game, player, some, tries), firm_then(self.game, player, some, tries))

    def guests(self, player):
        """The tuple of the pairs of the tick at which a guest joined and of its join letter."""
        return self.seat(player)[GUESTS]

    def guest_shown(self, player, place):
        """What is sure to the guest of this place, any value; Unfit() if there is none."""
        guests = self.guests(player)
        if not is_whole(place, 0, len(guests) - 1):
            raise Unfit()
        tick, letter = guests[place]
        some = joined(self.game, self.rule, letter)
        for its_letter in self.sent(player)[tick + 1:]:
            some = gone_on(self.game, self.wire, (player,), some, (its_letter,))
        return sure(self.game, some)

    def elder_shown(self, player):
        """What is sure to who has heard all letters that were sent to the player."""
        return sure(self.game, self.known_by(player, self.sent(player)))

    def watched_shown(self, player, lag):
        """What is sure to a watcher with this lag, any value, who hears what is sent to the player."""
        self.seat(player)
        return sure(self.game, watched(self.game, self.wire, player, lag, self.play))

    def accused(self):
        """The least lots of players whose devices' rows cannot all be true."""
        rows = [seat[DEVICE][0] for seat in self.seats]
        return finders(self.game, self.wire, tuple([row if row else None for row in rows]))

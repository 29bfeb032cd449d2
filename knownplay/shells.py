"""Shells: halls led by lines of text."""

from knownplay.errors import BadGame, BadRule, BadText, BadWire, NothingToRedo, NothingToUndo, Refused, TooMany
from knownplay.errors import TooManyEdits, Unfit
from knownplay.gametexts import read_game
from knownplay.halllogs import call_of, call_text, called, hall_log, is_figures, read_rule
from knownplay.halls import Hall
from knownplay.knowngames import known_game
from knownplay.knownwires import bare_wire, changes_wire, plain_wire, silent_wire
from knownplay.leaks import lack, leak
from knownplay.playtexts import cells_text, play_text
from knownplay.wiretexts import read_wire

WIRE_WORDS = ("plain", "changes", "bare", "silent")

# How many numbers stand behind each word that asks something of a hall.
LOOKS = {
    "state": 0,
    "play": 0,
    "log": 0,
    "accused": 0,
    "sent": 1,
    "row": 1,
    "road": 1,
    "lacks": 1,
    "way": 1,
    "open": 1,
    "shown": 1,
    "ahead": 1,
    "elder": 1,
    "guest": 2,
    "watch": 2,
    "firm": 1,
    "leak": 1,
    "lack": 1,
}

WHAT = "what"
NONE = "none"
NO_HALL = "no hall"


def wire_called(word, game):
    """The wire of game that one of WIRE_WORDS tells."""
    if word == "plain":
        return plain_wire(game)
    if word == "changes":
        return changes_wire(game)
    return bare_wire(game) if word == "bare" else silent_wire(game)


def joined_or_none(texts, between):
    """The texts with what stands between them; NONE if there are none."""
    return between.join(texts) if texts else NONE


def numbers_text(numbers):
    """The text of some numbers."""
    return joined_or_none([f"{number}" for number in numbers], " ")


def letters_text(letters):
    """The text of some letters."""
    return joined_or_none([cells_text(letter) if letter else "-" for letter in letters], " / ")


def sure_text(shown):
    """The text of what is shown of the cells, perhaps None."""
    if shown is None:
        return NONE
    texts = [f"c{cell} {value}" for cell, value in enumerate(shown) if value is not None]
    return ", ".join(texts) if texts else "nothing"


def result_text(result):
    """The text of a result that is shown, perhaps None."""
    if result is None:
        return "-"
    word, *rest = result
    return " ".join([word, *[f"{cell}:{value}" for pairs in rest for cell, value in pairs]])


def firm_text(firm):
    """The text of what is firm, perhaps None."""
    if firm is None:
        return NONE
    return "; ".join([result_text(result) for result in firm[0]]) if firm[0] else "nothing"


def lots_text(lots):
    """The text of lots of players."""
    return "; ".join([",".join([f"{player}" for player in lot]) for lot in lots]) if lots else "nobody"


def plays_text(plays):
    """The text of a pair of plays, perhaps None."""
    if plays is None:
        return NONE
    return " | ".join([play_text(play) if play else NONE for play in plays])


class Shell:
    """A hall, perhaps none as yet, and the game, the wire and the rule that are kept for a new one."""

    def __init__(self):
        self.hall = None
        self.kept_game = None
        self.kept_wire = None
        self.kept_rule = ()

    def say(self, line):
        """The answer to line, any value."""
        if not isinstance(line, str):
            return WHAT
        try:
            return self.answer(line)
        except Unfit:
            name = "Unfit"
        except BadText:
            name = "BadText"
        except BadGame:
            name = "BadGame"
        except BadWire:
            name = "BadWire"
        except BadRule:
            name = "BadRule"
        except Refused:
            name = "Refused"
        except TooMany:
            name = "TooMany"
        except TooManyEdits:
            name = "TooManyEdits"
        except NothingToUndo:
            name = "NothingToUndo"
        except NothingToRedo:
            name = "NothingToRedo"
        return f"error {name}"

    def answer(self, line):
        """The answer to line, a string; what is raised is to be answered, too."""
        word, blank, text = line.partition(" ")
        if word == "known":
            return self.begin_known(text)
        if word in ("game", "wire", "rule") and blank:
            return self.keep(word, text.replace(" | ", "\n"))
        if line == "begin":
            return self.begin()
        call = call_of(line)
        if call is not None:
            return NO_HALL if self.hall is None else f"version {called(self.hall, call)}"
        figures = text.split(" ") if blank else []
        if LOOKS.get(word) != len(figures) or not all([is_figures(figure) for figure in figures]):
            return WHAT
        return NO_HALL if self.hall is None else self.look(word, [int(figure) for figure in figures])

    def begin_known(self, text):
        """Begins a new hall of a known game, by the text behind the word."""
        name, _, word = text.partition(" ")
        if not name or word not in WIRE_WORDS:
            return WHAT
        game = known_game(name)
        self.hall = Hall(game, wire_called(word, game), ())
        return "begun"

    def keep(self, word, text):
        """Keeps the game, the wire or the rule of which text is the text."""
        if word == "game":
            self.kept_game = read_game(text)
            self.kept_wire = None
            self.kept_rule = ()
            return "kept"
        if self.kept_game is None:
            raise Unfit()
        if word == "wire":
            self.kept_wire = read_wire(self.kept_game, text)
        else:
            self.kept_rule = read_rule(self.kept_game, text)
        return "kept"

    def begin(self):
        """Begins a new hall of what is kept: a wire is kept beside a game alone."""
        if self.kept_wire is None:
            raise Unfit()
        self.hall = Hall(self.kept_game, self.kept_wire, self.kept_rule)
        return "begun"

    def look(self, word, numbers):
        """The answer to a word that asks something of the hall, with its numbers."""
        hall = self.hall
        if word == "state":
            return ",".join([f"{value}" for value in hall.state])
        if word == "play":
            return play_text(hall.play) if hall.play else NONE
        if word == "log":
            return joined_or_none([call_text(call) for call in hall_log(hall)], " | ")
        if word == "accused":
            return lots_text(hall.accused())
        if word in ("sent", "row"):
            return letters_text(hall.sent(numbers[0]) if word == "sent" else hall.device(numbers[0])[0])
        if word in ("leak", "lack"):
            # A player that is not there is to be refused as elsewhere.
            hall.seat(numbers[0])
            find = leak if word == "leak" else lack
            return plays_text(find(hall.game, hall.wire, numbers[0]))
        if word == "firm":
            return firm_text(hall.firm(numbers[0]))
        if word in ("road", "lacks", "way", "open"):
            return numbers_text(numbers_asked(hall, word, numbers[0]))
        return sure_text(cells_asked(hall, word, numbers))


def numbers_asked(hall, word, player):
    """The numbers that word asks of the player's seat."""
    if word == "road":
        return hall.road(player)
    if word == "lacks":
        return hall.lacks(player)
    return hall.on_the_way(player) if word == "way" else hall.open_tries(player)


def cells_asked(hall, word, numbers):
    """What is shown of the cells, as word asks with its numbers."""
    if word == "shown":
        return hall.shown(numbers[0])
    if word == "ahead":
        return hall.ahead(numbers[0])
    if word == "elder":
        return hall.elder_shown(numbers[0])
    return hall.guest_shown(*numbers) if word == "guest" else hall.watched_shown(*numbers)

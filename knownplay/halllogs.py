"""The texts of joiners' rules and of the logs of halls, and halls behind logs."""

from knownplay.bounds import MAX_EDITS
from knownplay.errors import BadLog, BadRule, BadTerm, BadText, KnowError
from knownplay.halls import Hall
from knownplay.joiners import rule_error
from knownplay.wiretexts import entry_text, read_entry

# As many cells as any term may ask, and nothing but cells, as a joiners' rule asks no more.
WIDE_PLACE = (1000000000, ())

# How many numbers stand behind each word of a call.
NUMBERS = {
    "offer": 2,
    "take": 2,
    "serve": 2,
    "come": 2,
    "twice": 2,
    "lose": 2,
    "ask": 2,
    "mend": 1,
    "join": 1,
    "undo": 0,
    "redo": 0,
}

MOST_FIGURES = 4


def rule_text(rule):
    """The text of a joiners' rule."""
    return "\n".join([entry_text(entry) for entry in rule])


def read_rule(game, value):
    """The joiners' rule of game of which value, any value, is the text; BadText or BadRule if it is none."""
    if not isinstance(value, str):
        raise BadText(0)
    rule = []
    lines = value.split("\n") if value else []
    for number, line in enumerate(lines):
        try:
            rule.append(read_entry(WIDE_PLACE, line))
        except (BadText, BadTerm):
            raise BadText(number) from None
    error = rule_error(game, tuple(rule))
    if error is not None:
        raise BadRule(error)
    return tuple(rule)


def call_text(call):
    """The line of a call."""
    return " ".join([f"{item}" for item in call])


def log_text(log):
    """The text of a log."""
    return "".join([f"{call_text(call)}\n" for call in log])


def is_figures(text):
    """Whether text is that of a number that a call may have."""
    if not text.isascii() or not text.isdigit() or len(text) > MOST_FIGURES:
        return False
    return text == "0" or not text.startswith("0")


def call_of(line):
    """The call of which line, a string, is the line; None if it is that of none."""
    word, *figures = line.split(" ")
    if word not in NUMBERS or len(figures) != NUMBERS[word] or not all([is_figures(text) for text in figures]):
        return None
    return (word, *[int(text) for text in figures])


def read_log(value):
    """The log of which value, any value, is the text, also without its last line feed; BadText if it is of none."""
    if not isinstance(value, str):
        raise BadText(0)
    lines = value.split("\n")
    if lines[-1] == "":
        lines = lines[:-1]
    calls = []
    for number, line in enumerate(lines):
        call = call_of(line)
        if call is None or number == 4 * MAX_EDITS:
            raise BadText(number)
        calls.append(call)
    return tuple(calls)


def is_call(value):
    """Whether value, any value, is a tuple of a word of calls and of as many items behind it as it has numbers."""
    if not isinstance(value, tuple) or not value or not isinstance(value[0], str):
        return False
    return value[0] in NUMBERS and len(value) == 1 + NUMBERS[value[0]]


def called(hall, call):
    """What hall returns to call, the numbers of which may be any values."""
    word, numbers = call[0], call[1:]
    if word == "offer":
        return hall.offer(*numbers)
    if word == "take":
        return hall.take(*numbers)
    if word == "serve":
        return hall.serve(*numbers)
    if word == "come":
        return hall.come(*numbers)
    if word == "twice":
        return hall.twice(*numbers)
    if word == "lose":
        return hall.lose(*numbers)
    if word == "ask":
        return hall.ask(*numbers)
    if word == "mend":
        return hall.mend(*numbers)
    if word == "join":
        return hall.join(numbers[0])
    return hall.undo() if word == "undo" else hall.redo()


def hall_behind(game, wire, rule, value):
    """A new hall on which the calls of value, any value, were made; errors as by Hall, or BadLog."""
    hall = Hall(game, wire, rule)
    if not isinstance(value, tuple):
        raise BadLog(0)
    for place, call in enumerate(value):
        if not is_call(call):
            raise BadLog(place)
        try:
            called(hall, call)
        except KnowError:
            raise BadLog(place) from None
    return hall


def hall_log(hall):
    """The log of the edits of hall that stand."""
    return hall.edits

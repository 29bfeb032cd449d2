"""The package's errors. Each keeps what it was made with, just as it was passed."""


class KnowError(ValueError):
    """What all errors of the package are."""


class Unfit(KnowError):
    """What was handed in does not fit the game, or what else it was handed in with."""


class BadText(KnowError):
    """A value that is no text of what is read; place is the first sign, or line, that is wrong."""

    def __init__(self, place):
        self.place = place


class BadTerm(KnowError):
    """A text of what is no term, or no condition; error tells what is wrong with it."""

    def __init__(self, error):
        self.error = error


class BadGame(KnowError):
    """What is no game; error tells what is wrong with it."""

    def __init__(self, error):
        self.error = error


class BadWire(KnowError):
    """What is no wire; error tells what is wrong with it."""

    def __init__(self, error):
        self.error = error


class BadRule(KnowError):
    """What is no rule for joiners; error tells what is wrong with it."""

    def __init__(self, error):
        self.error = error


class BadLog(KnowError):
    """A log that cannot be gone through; place is the first call that is wrong."""

    def __init__(self, place):
        self.place = place


class Refused(KnowError):
    """An edit that a hall refuses; word tells why."""

    def __init__(self, word):
        self.word = word


class TooMany(KnowError):
    """There are more of what is gone through than limit."""

    def __init__(self, limit):
        self.limit = limit


class TooManyEdits(KnowError):
    """As many edits stand in a hall as may stand there."""


class NothingToUndo(KnowError):
    """No edit stands that could be undone."""


class NothingToRedo(KnowError):
    """No edit was undone that could be done again."""

"""Reads the texts of wide terms and conditions, sign by sign from left to right."""

from knownplay.errors import BadText
from knownplay.terms import KINDS, PARTS

FIGURES = "0123456789"

# How a thing may start, figures aside, by the kind that is due; none of these begins with another one.
STARTS = {
    "term": ("(", "c", "w", "draw", "deed"),
    "condition": ("(", "yes", "done", "not "),
    "any": ("(", "c", "w", "draw", "deed", "yes", "done", "not "),
}

# The words of what is told by a sign and a number.
NUMBERED = {"c": "cell", "w": "was"}

# The marks between two parts, and the words that they tell.
MARKS = {" + ": "sum", " - ": "less", " = ": "same", " < ": "below", " and ": "both", " or ": "either"}

# The marks that may come in brackets, by what is due there and by the kind of their first part.
MARKS_BEHIND = {
    ("term", "term"): (" + ", " - "),
    ("condition", "term"): (" = ", " < "),
    ("any", "term"): (" + ", " - ", " = ", " < "),
    ("condition", "condition"): (" and ", " or "),
    ("any", "condition"): (" and ", " or "),
}


class Begun:
    """A thing that is begun and not ended: what was due, its word, or "" while it is not told, and its parts so far."""

    def __init__(self, due, word):
        self.due = due
        self.word = word
        self.parts = []


class Reader:
    """Reads one text: at is the place of the next sign, due the kind of thing that comes next.

    Behind a bracket it may hang on a later mark whether a term or a condition
    stands there; then "any" is due, and the marks that are let tell it in time.
    """

    def __init__(self, due, text):
        self.text = text
        self.at = 0
        self.due = due
        self.begun = []

    def whole(self):
        """The thing of which the text is that of the whole."""
        thing = self.started()
        while thing is None or self.begun:
            if thing is None:
                thing = self.started()
            else:
                thing = self.gone_on(thing)
        if self.at < len(self.text):
            raise BadText(self.at)
        return thing

    def started(self):
        """Passes the start of what is due; returns this if it has no parts, otherwise None."""
        if self.due != "condition" and self.figure_comes():
            return ("is", self.number(2))
        word = self.passed(self.starts())
        if word == "(":
            self.begun.append(Begun(self.due, ""))
            self.due = "term" if self.due == "term" else "any"
        elif word == "not ":
            self.begun.append(Begun(self.due, "not"))
            self.due = "condition"
        elif word == "if ":
            innermost = self.begun[-1]
            innermost.word = "choose"
            self.due = "condition"
        elif word in NUMBERED:
            return (NUMBERED[word], self.number(9))
        else:
            return (word,)
        return None

    def starts(self):
        """How the thing that is due may start; behind the bracket of what may be a term with "if ", too."""
        words = STARTS[self.due]
        if self.begun and self.begun[-1].word == "" and self.begun[-1].due != "condition":
            return words + ("if ",)
        return words

    def gone_on(self, part):
        """Puts part into the innermost thing that is begun; returns this if it ends so, otherwise None."""
        outer = self.begun[-1]
        outer.parts.append(part)
        many = len(outer.parts)
        if outer.word == "":
            mark = self.passed(MARKS_BEHIND[(outer.due, KINDS[part[0]])])
            outer.word = MARKS[mark]
            self.due = PARTS[outer.word][1]
            return None
        if many < len(PARTS[outer.word]):
            # Only what began with "if " comes here.
            self.passed((" then ",) if many == 1 else (" else ",))
            self.due = "term"
            return None
        if outer.word != "not":
            self.passed((")",))
        self.begun.pop()
        return (outer.word, *outer.parts)

    def passed(self, words):
        """Passes that one of words that comes next, and returns it."""
        for word in words:
            if self.text.startswith(word, self.at):
                self.at += len(word)
                return word
        raise BadText(self.at + max([self.alike(word) for word in words]))

    def alike(self, word):
        """How many of the first signs of word come next."""
        many = 0
        for sign in word:
            if not self.text.startswith(sign, self.at + many):
                return many
            many += 1
        return many

    def figure_comes(self):
        """Whether the next sign is a figure."""
        return self.at < len(self.text) and self.text[self.at] in FIGURES

    def number(self, most):
        """Passes a number of one to most figures, with no needless nought, and returns it."""
        first = self.at
        self.at = number_end(self.text, first, most)
        return int(self.text[first:self.at])


def number_end(text, at, most):
    """The place behind the number of one to most figures, with no needless nought, that text has to have at a place."""
    end = at
    while end < len(text) and end - at < most and text[end] in FIGURES and text[at:end] != "0":
        end += 1
    if end == at:
        raise BadText(at)
    return end


def wide_thing(kind, text):
    """The wide term or condition, as kind tells, of which text is the text; raises BadText with the place."""
    return Reader(kind, text).whole()

"""The texts of terms and conditions."""

from knownplay.errors import BadTerm, BadText
from knownplay.terms import thing_error
from knownplay.widetexts import wide_thing

# What stands between the texts of two parts.
BETWEEN = {"sum": "+", "less": "-", "same": "=", "below": "<", "both": "and", "either": "or"}


def thing_text(thing):
    """The text of a term or of a condition."""
    word = thing[0]
    if word == "is":
        return f"{thing[1]}"
    if word == "cell":
        return f"c{thing[1]}"
    if word == "was":
        return f"w{thing[1]}"
    if word == "not":
        return f"not {thing_text(thing[1])}"
    if word == "choose":
        return f"(if {thing_text(thing[1])} then {thing_text(thing[2])} else {thing_text(thing[3])})"
    if word in BETWEEN:
        return f"({thing_text(thing[1])} {BETWEEN[word]} {thing_text(thing[2])})"
    return word


def term_text(term):
    """The text of term."""
    return thing_text(term)


def condition_text(condition):
    """The text of condition."""
    return thing_text(condition)


def read_thing(place, kind, value):
    """The term or condition at place, as kind tells, of which value is the text."""
    if not isinstance(value, str):
        raise BadText(0)
    thing = wide_thing(kind, value)
    error = thing_error(place, kind, thing)
    if error is not None:
        raise BadTerm(error)
    return thing


def read_term(place, value):
    """The term at place whose text value, any value, is."""
    return read_thing(place, "term", value)


def read_condition(place, value):
    """The condition at place whose text value, any value, is."""
    return read_thing(place, "condition", value)

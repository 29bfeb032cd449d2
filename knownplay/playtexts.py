"""The texts of plays and of views."""

from knownplay.errors import BadText
from knownplay.widetexts import number_end

MOST_FIGURES = 9


def play_text(play):
    """The text of play."""
    return " ".join([f"{deed}:{drawn}" for deed, drawn in play])


def view_text(view):
    """The text of view."""
    return " / ".join([f"{seen_text(seen)} {cells_text(cells)}" for seen, cells in view])


def seen_text(seen):
    """The text of what a view has of a deed."""
    if seen is None:
        return "-"
    return f"no {seen[1]}" if isinstance(seen, tuple) else f"d{seen}"


def cells_text(cells):
    """The text of what a view has of the cells."""
    return ",".join(["." if item is None else f"{item}" for item in cells])


def read_play(value):
    """The tuple of pairs of which value, any value, is the text; BadText with the place of what is wrong."""
    if not isinstance(value, str):
        raise BadText(0)
    pairs = []
    at = 0
    while at < len(value):
        if pairs:
            at = sign_end(value, at, " ")
        colon = number_end(value, at, MOST_FIGURES)
        drawn = sign_end(value, colon, ":")
        end = number_end(value, drawn, MOST_FIGURES)
        pairs.append((int(value[at:colon]), int(value[drawn:end])))
        at = end
    return tuple(pairs)


def sign_end(text, at, sign):
    """The place behind sign, which text has to have at a place."""
    if not text.startswith(sign, at):
        raise BadText(at)
    return at + 1

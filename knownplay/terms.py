"""Terms and conditions: what is one, what it is worth or whether it holds, what it asks."""

from knownplay.bounds import MAX_DEEP, MAX_PARTS
from knownplay.values import is_whole

# What each word makes with what stands behind it.
KINDS = {
    "is": "term",
    "cell": "term",
    "was": "term",
    "draw": "term",
    "deed": "term",
    "sum": "term",
    "less": "term",
    "choose": "term",
    "yes": "condition",
    "done": "condition",
    "same": "condition",
    "below": "condition",
    "not": "condition",
    "both": "condition",
    "either": "condition",
}

# What the parts behind each word have to be; the words that are not told here have no parts.
PARTS = {
    "sum": ("term", "term"),
    "less": ("term", "term"),
    "choose": ("condition", "term", "term"),
    "same": ("term", "term"),
    "below": ("term", "term"),
    "not": ("condition",),
    "both": ("condition", "condition"),
    "either": ("condition", "condition"),
}

# The words that can only be used at a place that lets them.
LET_WORDS = ("deed", "done", "draw", "was")

MOST_IS = 99


def is_due(place, due, value):
    """Whether value, its parts aside, is one of the tuples of the table that is due at place."""
    if not isinstance(value, tuple) or not value or not isinstance(value[0], str):
        return False
    word = value[0]
    if KINDS.get(word) != due or (word in LET_WORDS and word not in place[1]):
        return False
    if word == "is":
        return len(value) == 2 and is_whole(value[1], 0, MOST_IS)
    if word in ("cell", "was"):
        return len(value) == 2 and is_whole(value[1], 0, place[0] - 1)
    return len(value) == 1 + len(PARTS.get(word, ()))


def thing_error(place, kind, value):
    """The error of value as a term or as a condition, as kind tells.

    It goes through the parts in the order of their ways, and without calls
    of itself: what is read from a text may be thousands of parts deep.
    """
    todo = [(kind, value, 0, 0)]
    way = []
    parts = 0
    deepest = 0
    while todo:
        due, part, depth, number = todo.pop()
        # The whole has no number; a 0 that stands for it is left out when the way is told.
        way[depth:] = [number]
        if not is_due(place, due, part):
            return ("part", tuple(way[1:]))
        parts += 1
        deepest = max(deepest, depth)
        kinds = PARTS.get(part[0], ())
        for behind in reversed(range(len(kinds))):
            todo.append((kinds[behind], part[behind + 1], depth + 1, behind + 1))
    if deepest >= MAX_DEEP:
        return "deep"
    return "parts" if parts > MAX_PARTS else None


def term_error(place, value):
    """None if value, any value, is a term at place; otherwise what is wrong with it."""
    return thing_error(place, "term", value)


def condition_error(place, value):
    """None if value, any value, is a condition at place; otherwise what is wrong with it."""
    return thing_error(place, "condition", value)


def worth(term, moment):
    """What term is worth at moment."""
    now, was, deed, drawn, _ = moment
    word = term[0]
    if word == "is":
        return term[1]
    if word == "cell":
        return now[term[1]]
    if word == "was":
        return was[term[1]]
    if word == "draw":
        return drawn
    if word == "deed":
        return deed
    if word == "sum":
        return worth(term[1], moment) + worth(term[2], moment)
    if word == "less":
        return worth(term[1], moment) - worth(term[2], moment)
    return worth(term[2] if holds(term[1], moment) else term[3], moment)


def holds(condition, moment):
    """Whether condition holds at moment."""
    word = condition[0]
    if word == "yes":
        return True
    if word == "done":
        return moment[4] is True
    if word == "same":
        return worth(condition[1], moment) == worth(condition[2], moment)
    if word == "below":
        return worth(condition[1], moment) < worth(condition[2], moment)
    if word == "not":
        return not holds(condition[1], moment)
    if word == "both":
        return holds(condition[1], moment) and holds(condition[2], moment)
    return holds(condition[1], moment) or holds(condition[2], moment)


def asked(thing):
    """The ascending tuple of the cells that thing, a term or a condition, asks."""
    cells = set()
    todo = [thing]
    while todo:
        part = todo.pop()
        if part[0] in ("cell", "was"):
            cells.add(part[1])
        if part[0] in PARTS:
            todo.extend(part[1:])
    return tuple(sorted(cells))

"""Lean papers: planes of which the pair tables of all plays come, by which a wire leans behind none."""

from knownplay.leanings import Leaner, is_newer, planes_of_plays, rest_of
from knownplay.values import ascends, is_integer, is_row, is_whole


def lean_paper(game, wire, player):
    """A lean paper of the wire for player; None if there is none."""
    play, kept = planes_of_plays(Leaner(game, wire, player))
    if play is not None:
        return None
    return tuple([tuple([plane_of(table) for table in tables]) for tables in kept])


def plane_of(table):
    """The plane of a table."""
    return tuple(sorted([(one, other, table[(one, other)]) for one, other in table]))


def table_of(plane):
    """The table of a plane."""
    return {(one, other): whole for one, other, whole in plane}


def is_plane(many, value):
    """Whether value, any value, is a plane of so many states."""
    if not isinstance(value, tuple) or not value or not all([is_entry(many, item) for item in value]):
        return False
    # Where the pairs ascend by themselves none stands there twice.
    return ascends(tuple([(one, other) for one, other, _ in value]))


def is_entry(many, value):
    """Whether value, any value, is a triple of two numbers of so many states and of an integer that is not 0."""
    if not is_row(value, 3, 3) or not is_whole(value[0], 0, many - 1) or not is_whole(value[1], 0, many - 1):
        return False
    return is_integer(value[2]) and value[2] != 0


def lean_paper_error(game, wire, player, value):
    """None if value, any value, is a lean paper; otherwise what is wrong with it."""
    leaner = Leaner(game, wire, player)
    if not is_row(value, leaner.many, leaner.many) or not all([isinstance(planes, tuple) for planes in value]):
        return "form"
    bases = [[] for _ in value]
    for number, planes in enumerate(value):
        for k, plane in enumerate(planes):
            if not is_plane(leaner.many, plane) or not is_newer(table_of(plane), bases[number]):
                return ("plane", number, k)
    first = leaner.begun_at
    if rest_of({(first, first): 1}, bases[first]):
        return "first"
    error = behind_error(leaner, value, bases)
    return error if error is not None else even_error(value)


def behind_error(leaner, value, bases):
    """What is told of the first plane and move behind which the table does not come of the planes there; else None."""
    for number, planes in enumerate(value):
        for k, plane in enumerate(planes):
            table = table_of(plane)
            for tick in leaner.moved[number]:
                if rest_of(leaner.table_behind(table, tick), bases[tick[3]]):
                    return ("behind", number, k, tick[0])
    return None


def even_error(value):
    """What is told of the first plane that is not even; None if all are."""
    for number, planes in enumerate(value):
        for k, plane in enumerate(planes):
            more = {}
            for one, other, whole in plane:
                more[one] = more.get(one, 0) + whole
                more[other] = more.get(other, 0) - whole
            if any([left != 0 for left in list(more.values())]):
                return ("even", number, k)
    return None

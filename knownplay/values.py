"""Of what kind a value is that may be any value."""


def is_integer(value):
    """Whether value is an integer, so no bool."""
    return isinstance(value, int) and not isinstance(value, bool)


def is_whole(value, least, most):
    """Whether value is an integer, so no bool, from least to most."""
    return is_integer(value) and least <= value <= most


def is_count(value):
    """Whether value is an integer from 0 on."""
    return is_integer(value) and value >= 0


def is_row(value, least, most):
    """Whether value is a tuple of least to most items."""
    return isinstance(value, tuple) and least <= len(value) <= most


def is_pair(value):
    """Whether value is a pair of integers."""
    return is_row(value, 2, 2) and is_integer(value[0]) and is_integer(value[1])


def is_ascending(value, most):
    """Whether value is an ascending tuple of integers from 0 to most, each once."""
    if not isinstance(value, tuple):
        return False
    least = 0
    for item in value:
        if not is_whole(item, least, most):
            return False
        least = item + 1
    return True


def is_order(value, many):
    """Whether value is a tuple that has each integer from 0 to many - 1 once."""
    if not is_row(value, many, many):
        return False
    whole = all([is_whole(item, 0, many - 1) for item in value])
    return whole and sorted(value) == list(range(many))


def is_letter(value):
    """Whether value is a tuple of integers and of None, as letters are: only then == tells whether it is a letter."""
    if not isinstance(value, tuple):
        return False
    return all([item is None or is_integer(item) for item in value])


def is_letters(value):
    """Whether value is a tuple of what is_letter lets by, as letters of ears are."""
    return isinstance(value, tuple) and all([is_letter(item) for item in value])


def ascends(items):
    """Whether each of items, a tuple of what Python compares, is greater than the one ahead."""
    return all([one < other for one, other in zip(items, items[1:])])

"""What is known by rows with gaps, and which of the lacking letters should be asked for anew."""

from knownplay.bounds import MAX_OPEN, MAX_TABLE
from knownplay.errors import TooMany, Unfit
from knownplay.sets import is_set
from knownplay.tellers import Ears, choices_of, fits
from knownplay.values import ascends, is_ascending, is_letter, is_row


def known_by_gaps(game, wire, player, row):
    """The ascending tuple of the states behind plays heard as row, any value, tells; () if there are none."""
    return known_so(Ears(game, wire, (player,)), row).states


def known_so(ear, row):
    """The lot known to ear, one ear, by row, any value; that of () if it is no row with gaps."""
    if not isinstance(row, tuple) or not row:
        return ear.lot(())
    if not all([item is None or is_letter(item) for item in row]) or not fits(ear.first_told(), row[:1]):
        return ear.lot(())
    lot = ear.alone()
    for k in range(1, len(row)):
        lot = ear.fitting(lot, row[k:k + 1])
    return lot


def fit_ear(game, wire, player, row, numbers):
    """The ear of player; Unfit() if row tells nothing that can be, or numbers are no open ones of it, ascending."""
    ear = Ears(game, wire, (player,))
    if not known_so(ear, row).states or not is_ascending(numbers, len(row) - 1):
        raise Unfit()
    if not all([row[number] is None for number in numbers]):
        raise Unfit()
    return ear


def with_letters(row, numbers, full):
    """What the full row full of row tells with numbers."""
    asked = {number: True for number in numbers}
    return tuple([full[k] if k in asked else item for k, item in enumerate(row)])


def pairs_of(ear, row, numbers):
    """A list of a dict for each number of row: of the pairs there, each with the pair ahead and the letters from there.

    A pair is that of the lot by what a beginning tells with numbers, and of the one by the beginning itself.
    """
    told = {number: True for number in range(len(row)) if row[number] is not None}
    told.update({number: True for number in numbers})
    layers = [{(ear.alone(), ear.alone()): None}]
    for k in range(1, len(row)):
        newer = {}
        for pair in layers[-1]:
            for letters, behind in pairs_behind(ear, pair, row[k:k + 1], k in told):
                if behind not in newer:
                    newer[behind] = (pair, letters)
            if len(newer) > MAX_TABLE:
                raise TooMany(MAX_TABLE)
        layers.append(newer)
    return layers


def pairs_behind(ear, pair, wanted, told):
    """A list of letters that are as wanted, each with the pair behind; if they are not told any may have been heard."""
    some, whole = pair
    leads = [(letters, behind) for letters, behind in ear.leads(whole).items() if fits(letters, wanted)]
    if told:
        return [(letters, (ear.after(some, letters), behind)) for letters, behind in leads]
    return [(letters, (ear.after_move(some), behind)) for letters, behind in leads]


def unlike_pair(ear, layers):
    """The first pair of the last layer that has unlike sure cells; None if none has."""
    for some, whole in layers[-1]:
        if ear.sure(some) != ear.sure(whole):
            return (some, whole)
    return None


def asked_enough(game, wire, player, row, numbers):
    """A full row by which numbers is not enough; None if it is enough."""
    ear = fit_ear(game, wire, player, row, numbers)
    layers = pairs_of(ear, row, numbers)
    pair = unlike_pair(ear, layers)
    if pair is None:
        return None
    full = []
    for layer in reversed(layers[1:]):
        pair, letters = layer[pair]
        full.append(letters[0])
    return (ear.first_told()[0], *full[::-1])


def full_error(game, wire, player, row, numbers, value):
    """None if value, any value, is a full row by which numbers is not enough; otherwise what is wrong with it."""
    ear = fit_ear(game, wire, player, row, numbers)
    if not is_row(value, len(row), len(row)):
        return "form"
    for k, item in enumerate(row):
        if item is not None and (not is_letter(value[k]) or value[k] != item):
            return ("letter", k)
    whole = ear.known(tuple([(item,) for item in value]))
    if not whole.states:
        return "heard"
    alike = ear.sure(whole) == ear.sure(known_so(ear, with_letters(row, numbers, value)))
    return "alike" if alike else None


def least_asked(game, wire, player, row):
    """A lot of open numbers that is enough, of those with the fewest."""
    ear = fit_ear(game, wire, player, row, ())
    gaps = tuple([k for k, item in enumerate(row) if item is None])
    if len(gaps) > MAX_OPEN:
        raise TooMany(MAX_OPEN)
    least = None
    # Also the lots behind the one that is found are gone through: any of them may have too many pairs.
    for many in range(len(gaps) + 1):
        for numbers in choices_of(gaps, many):
            enough = unlike_pair(ear, pairs_of(ear, row, numbers)) is None
            if enough and least is None:
                least = numbers
    return least


def gap_paper(game, wire, player, row, numbers):
    """The pairs at each number, by which numbers is enough; None if it is not."""
    ear = fit_ear(game, wire, player, row, numbers)
    layers = pairs_of(ear, row, numbers)
    if unlike_pair(ear, layers) is not None:
        return None
    return tuple([told_pairs(layer) for layer in layers])


def told_pairs(layer):
    """The ascending tuple of the pairs of sets that the pairs of a layer are."""
    return tuple(sorted([(some.states, whole.states) for some, whole in layer]))


def gap_paper_error(game, wire, player, row, numbers, value):
    """None if value, any value, is the tuple of the pairs, and numbers is enough; otherwise what is wrong with it."""
    ear = fit_ear(game, wire, player, row, numbers)
    layers = pairs_of(ear, row, numbers)
    if not is_row(value, len(row), len(row)) or not all([are_pairs(game, item) for item in value]):
        return "form"
    for k, layer in enumerate(layers):
        if value[k] != told_pairs(layer):
            return ("pairs", k)
    return None if unlike_pair(ear, layers) is None else "sure"


def are_pairs(game, value):
    """Whether value is an ascending tuple of pairs of sets of game."""
    if not isinstance(value, tuple) or not all([is_row(item, 2, 2) for item in value]):
        return False
    return all([is_set(game, item[0]) and is_set(game, item[1]) for item in value]) and ascends(value)

"""Classes of sets that are alike for ever, and the fewest memories that a device can do with."""

from knownplay.errors import Unfit
from knownplay.sets import is_showing, sure
from knownplay.settables import number_of, table_of
from knownplay.tellers import Ears, way_to
from knownplay.values import is_count, is_letters, is_row, is_whole
from knownplay.wires import letter_order


def numbered(keys):
    """The tuple of the numbers of keys, like ones having one, numbered from 0 on as they are first met."""
    numbers = {}
    return tuple([numbers.setdefault(key, len(numbers)) for key in keys])


def letters_of(leads):
    """The tuple of the letters of leads."""
    return tuple([lead[0] for lead in leads])


def first_round(game, table):
    """The numbers of the sets of table by which two have one if they are not unlike at once."""
    return numbered([(sure(game, some), letters_of(leads)) for some, leads in table])


def next_round(table, numbers):
    """The round behind that of numbers."""
    # Sets of one number have the same letters, so it is enough to look where these lead.
    return numbered([(number, tuple([numbers[lead[1]] for lead in leads]))
                     for number, (_, leads) in zip(numbers, table)])


def rounds_of(game, table):
    """A list of all rounds, up to the first one that no further one would part."""
    rounds = [first_round(game, table)]
    further = next_round(table, rounds[0])
    while further != rounds[-1]:
        rounds.append(further)
        further = next_round(table, further)
    return rounds


def classes(game, wire, ears):
    """The number of its class for each set of set_table, in order."""
    return rounds_of(game, table_of(Ears(game, wire, ears)))[-1]


def parting(game, wire, ears, row, other):
    """A shortest row of letters behind which the sets behind row and other are unlike at once; None for one class."""
    teller = Ears(game, wire, ears)
    table = table_of(teller)
    if not teller.known(row).states or not teller.known(other).states:
        raise Unfit()
    rounds = rounds_of(game, table)
    one, two = number_of(table, row), number_of(table, other)
    if rounds[-1][one] == rounds[-1][two]:
        return None
    last = 0
    while rounds[last][one] == rounds[last][two]:
        last += 1
    letters = []
    for numbers in reversed(rounds[:last]):
        letter, one, two = parted_next(table, numbers, one, two)
        letters.append(letter)
    return tuple(letters)


def parted_next(table, numbers, one, two):
    """The first letters that lead from two sets, with the same letters next, to two of unlike numbers; and these."""
    found = [(letters, behind, its_like) for (letters, behind), (_, its_like) in zip(table[one][1], table[two][1])]
    return [lead for lead in found if numbers[lead[1]] != numbers[lead[2]]][0]


def parting_error(game, wire, ears, row, other, value):
    """None if value, any value, is a row behind which the sets behind row and other are unlike at once."""
    teller = Ears(game, wire, ears)
    one, two = teller.known(row), teller.known(other)
    if not one.states or not two.states:
        raise Unfit()
    if not isinstance(value, tuple):
        return "form"
    for k, letters in enumerate(value):
        one, two = teller.gone_on(one, letters), teller.gone_on(two, letters)
        if not one.states or not two.states:
            return ("letters", k)
    alike = teller.sure(one) == teller.sure(two) and teller.letters(one) == teller.letters(two)
    return "alike" if alike else None


def class_paper(game, wire, ears):
    """The rounds by which sets are parted; the last one tells their classes."""
    return tuple(rounds_of(game, table_of(Ears(game, wire, ears))))


def class_paper_error(game, wire, ears, value):
    """None if value, any value, is the tuple of the rounds; otherwise what is wrong with it."""
    table = table_of(Ears(game, wire, ears))
    if not isinstance(value, tuple) or not value:
        return "form"
    for item in value:
        if not is_row(item, len(table), len(table)) or not all([is_count(number) for number in item]):
            return "form"
    due, ahead = first_round(game, table), None
    for k, numbers in enumerate(value):
        if numbers != due or numbers == ahead:
            return ("round", k)
        due, ahead = next_round(table, numbers), numbers
    return None if due == ahead else "rounds"


def memories(game, wire, ears):
    """The table with one memory for each class: what is sure there, and where each letter leads."""
    table = table_of(Ears(game, wire, ears))
    numbers = rounds_of(game, table)[-1]
    found = []
    for number, (some, leads) in zip(numbers, table):
        # Classes are numbered as they are first met.
        if number == len(found):
            found.append((sure(game, some), tuple([(letters, numbers[behind]) for letters, behind in leads])))
    return tuple(found)


def memories_error(game, wire, ears, value):
    """None if value, any value, is a table of memories that fits; otherwise what is wrong with it."""
    table = table_of(Ears(game, wire, ears))
    lengths = [len(wire[ear]) for ear in ears]
    if not isinstance(value, tuple) or not value:
        return "form"
    if not all([is_memory(game, lengths, len(value), item) for item in value]):
        return "form"
    row = row_amiss(game, table, value)
    return None if row is None else ("row", row)


def is_memory(game, lengths, many, value):
    """Whether value has the form of one of so many memories; lengths are those of the ears' letters."""
    if not is_row(value, 2, 2) or not is_showing(game, value[0]) or not isinstance(value[1], tuple):
        return False
    for lead in value[1]:
        if not is_row(lead, 2, 2) or not is_whole(lead[1], 0, many - 1) or not are_letters(lengths, lead[0]):
            return False
    return letter_order(letters_of(value[1])) == letters_of(value[1])


def are_letters(lengths, value):
    """Whether value is a tuple of letters of these lengths."""
    return is_letters(value) and [len(item) for item in value] == lengths


def row_amiss(game, table, value):
    """A shortest row of letters of ticks behind which the memories of value show or lead amiss; None if none do."""
    wanted = [(sure(game, some), letters_of(leads)) for some, leads in table]
    told = [(shown, letters_of(leads)) for shown, leads in value]
    pairs = [(0, 0)]
    ahead = {(0, 0): None}
    done = 0
    while done < len(pairs):
        number, memory = pairs[done]
        if wanted[number] != told[memory]:
            return way_to(ahead, pairs[done])[1]
        for (letters, behind), (_, its_like) in zip(table[number][1], value[memory][1]):
            if (behind, its_like) not in ahead:
                ahead[(behind, its_like)] = (pairs[done], letters)
                pairs.append((behind, its_like))
        done += 1
    return None


def shown_by(table, row):
    """What a table of memories shows behind row, any value, of letters of ticks; None if it does not lead on so."""
    if not isinstance(row, tuple):
        return None
    # The table leads on as one of sets does, behind an item for the beginning.
    number = number_of(table, (None, *row))
    return None if number is None else table[number][0]

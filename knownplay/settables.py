"""Tables of all sets that come, and of what leads from each to which."""

from knownplay.bounds import MAX_TABLE
from knownplay.errors import TooMany, Unfit
from knownplay.sets import is_set
from knownplay.tellers import Ears, way_to
from knownplay.values import is_letters, is_row, is_whole


def table_of(teller):
    """The table of the sets that come by what teller, some ears, is told; TooMany(MAX_TABLE) if it has more items."""
    lots = [teller.alone()]
    numbers = {lots[0]: 0}
    items = 1
    table = []
    while len(table) < len(lots):
        lot = lots[len(table)]
        leads = []
        for letters in teller.letters(lot):
            behind = teller.after(lot, letters)
            if behind not in numbers:
                numbers[behind] = len(lots)
                lots.append(behind)
                items += len(behind.states)
                if items > MAX_TABLE:
                    raise TooMany(MAX_TABLE)
            leads.append((letters, numbers[behind]))
        table.append((lot.states, tuple(leads)))
    return tuple(table)


def set_table(game, wire, ears):
    """For each set that comes the pair of it and of the pairs of letters and of the number that they lead to."""
    return table_of(Ears(game, wire, ears))


def number_of(table, row):
    """The number of the set to which the letters of row, any value, lead behind its first item; None if they do not."""
    if not isinstance(row, tuple) or not row:
        return None
    number = 0
    for letters in row[1:]:
        number = led_to(table[number][1], letters)
        if number is None:
            return None
    return number


def led_to(leads, letters):
    """The number to which letters, any value, lead by the pairs leads; None if they do not."""
    if not is_letters(letters):
        return None
    for some, number in leads:
        if some == letters:
            return number
    return None


def row_behind(table, number):
    """A shortest row of letters behind the beginning that leads to the set of this number."""
    ahead = {0: None}
    for other, (_, leads) in enumerate(table):
        for letters, behind in leads:
            # Sets are numbered as they are met, so the first one that leads there is one of the nearest.
            if behind not in ahead:
                ahead[behind] = (other, letters)
    return way_to(ahead, number)[1]


def row_to(game, wire, ears, some):
    """A shortest row by which some, any value, is known; TooMany as by set_table, or Unfit() if it never comes."""
    teller = Ears(game, wire, ears)
    table = table_of(teller)
    numbers = {item[0]: number for number, item in enumerate(table)}
    if not is_set(game, some) or some not in numbers:
        raise Unfit()
    return (teller.first_told(), *row_behind(table, numbers[some]))


def table_error(game, wire, ears, value):
    """None if value, any value, is what set_table tells; otherwise what is wrong with it, found by single letters."""
    if not is_table(game, value):
        return "form"
    teller = Ears(game, wire, ears)
    if value[0][0] != (teller.first,):
        return "begun"
    for k, (some, leads) in enumerate(value):
        if not are_leads(teller, value, some, leads):
            return ("leads", k)
    return order_error(value)


def is_table(game, value):
    """Whether value has the form of a table of sets."""
    if not isinstance(value, tuple) or not value:
        return False
    return all([is_item(game, len(value), item) for item in value])


def is_item(game, many, value):
    """Whether value has the form of an item of a table of so many items."""
    if not is_row(value, 2, 2) or not is_set(game, value[0]) or not isinstance(value[1], tuple):
        return False
    pairs = all([is_row(lead, 2, 2) and isinstance(lead[0], tuple) for lead in value[1]])
    return pairs and all([is_whole(lead[1], 0, many - 1) for lead in value[1]])


def are_leads(teller, table, some, leads):
    """Whether leads has the letters that can come in the set some, in order, and where they lead in table."""
    lot = teller.lot(some)
    wanted = teller.letters(lot)
    if len(wanted) != len(leads):
        return False
    for letters, (told, number) in zip(wanted, leads):
        if not is_letters(told) or told != letters or table[number][0] != teller.after(lot, letters).states:
            return False
    return True


def order_error(table):
    """What is told if the sets of table, whose leads are right, do not stand as they are met; otherwise None."""
    met = [table[0][0]]
    numbers = {met[0]: 0}
    for k, (some, leads) in enumerate(table):
        if k >= len(met) or met[k] != some:
            return ("order", k)
        for _, number in leads:
            behind = table[number][0]
            if behind not in numbers:
                numbers[behind] = len(met)
                met.append(behind)
    return None

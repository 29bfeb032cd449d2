"""Firmness: which results of tries are right, whatever others do meanwhile, and what is seen behind them."""

from knownplay.plays import is_state, step
from knownplay.tellers import found_from, way_to
from knownplay.tries import Trier, alone_rows, begun_pairs, cells_in, is_result, shown_at
from knownplay.values import ascends, is_integer, is_pair, is_row, is_whole


def lot_of(trier, known):
    """A dict of the pairs of the lot of tries, as found_from has them; TooMany(MAX_TABLE) if there are more."""
    return found_from(begun_pairs(known), trier.ons)


def tries_lot(game, player, known, tries):
    """The ascending tuple of the pairs of the lot of tries."""
    return tuple(sorted(list(lot_of(Trier(game, player, tries), known))))


def firm_row(game, player, known, tries):
    """The shown row that is firm and shows most."""
    trier = Trier(game, player, tries)
    return shown_at(trier, lot_of(trier, known))


def firm_then(game, player, known, tries):
    """For each cell what player is sure to see of it right behind the last of tries."""
    trier = Trier(game, player, tries)
    last = [pair for pair in lot_of(trier, known) if pair[0] == len(tries) - 1]
    found = {state: True for pair in last for _, (_, state) in trier.tried_on(pair)}
    return cells_in(game, player, list(found))


def firm_cells(game, player, known, tries):
    """For each cell what player is sure to see of it behind tries and any further moves of others."""
    pairs = lot_of(Trier(game, player, tries), known)
    return cells_in(game, player, [state for many, state in pairs if many == len(tries)])


def unlike_move(trier, shown, pair):
    """The first move at pair that has another result than shown has for its try; None if there is none."""
    for move, told, _ in trier.tried(pair):
        item = shown[pair[0]]
        if item is not None and not (is_result(item) and item == told):
            return move
    return None


def firm_error(game, player, known, tries, value):
    """None if value, any value, is a shown row that is firm; otherwise what is wrong with it."""
    trier = Trier(game, player, tries)
    pairs = lot_of(trier, known)
    if not is_row(value, len(tries), len(tries)):
        return "form"
    if not all([item is None or isinstance(item, tuple) for item in value]):
        return "form"
    wrong = [pair[0] for pair in pairs if unlike_move(trier, value, pair) is not None]
    return min(wrong) if wrong else None


def firm_paper(game, player, known, tries, shown):
    """A paper that shown is firm; None if it is not."""
    trier = Trier(game, player, tries)
    pairs = lot_of(trier, known)
    if any([unlike_move(trier, shown, pair) is not None for pair in pairs]):
        return None
    return tuple(sorted(list(pairs)))


def firm_paper_error(game, player, known, tries, shown, value):
    """None if value, any value, is a paper that shown is firm; otherwise what is wrong with it."""
    if not is_lot(game, len(tries), value):
        return "form"
    pairs = {pair: True for pair in value}
    for state in known:
        if (0, state) not in pairs:
            return ("begun", state)
    trier = Trier(game, player, tries)
    for k, pair in enumerate(value):
        if any([behind not in pairs for _, behind in trier.ons(pair)]):
            return ("step", k)
    for k, pair in enumerate(value):
        if unlike_move(trier, shown, pair) is not None:
            return ("result", k)
    return None


def is_lot(game, many, value):
    """Whether value, any value, is an ascending tuple of pairs of an integer from 0 to many and a state of game."""
    if not isinstance(value, tuple):
        return False
    whole = all([is_row(pair, 2, 2) and is_whole(pair[0], 0, many) and is_state(game, pair[1]) for pair in value])
    return whole and ascends(value)


def firm_tale(game, player, known, tries, shown):
    """A shortest tale of how shown is not firm; None if it is."""
    trier = Trier(game, player, tries)
    pairs = lot_of(trier, known)
    for pair in pairs:
        move = unlike_move(trier, shown, pair)
        if move is not None:
            (_, state), moves = way_to(pairs, pair)
            return (state, (*moves, move))
    return None


def firm_tale_error(game, player, known, tries, shown, value):
    """None if value, any value, is a tale of how shown is not firm; otherwise what is wrong with it."""
    if not is_row(value, 2, 2) or not isinstance(value[0], tuple) or not is_moves(value[1]) or not value[1]:
        return "form"
    state, moves = value
    error, pair = gone_from(game, player, known, tries, state, moves[:-1])
    if error is not None:
        return error
    behind = stepped_on(game, player, tries, pair, moves[-1])
    if behind is None:
        return ("move", len(moves) - 1)
    if behind[0] == pair[0]:
        return "result"
    told = Trier(game, player, tries).step(pair[1], moves[-1])[0]
    item = shown[pair[0]]
    return "result" if item is None or item == told else None


def is_moves(value):
    """Whether value, any value, is a tuple of pairs of integers."""
    return isinstance(value, tuple) and all([is_pair(item) for item in value])


def stepped_on(game, player, tries, pair, move):
    """The pair to which move, a pair of integers, leads by a step; None if it is no step."""
    many, state = pair
    found = step(game, state, move)
    if found is None:
        return None
    if game[2][move[0]][0] != player:
        return (many, found[1])
    due = many < len(tries) and tries[many] == move[0]
    return (many + 1, found[1]) if due else None


def gone_from(game, player, known, tries, state, moves):
    """What is wrong with state, any tuple, or with moves from there; if nothing is, None and the pair behind them."""
    if not is_state(game, state) or state not in known:
        return ("state", None)
    pair = (0, state)
    for k, move in enumerate(moves):
        pair = stepped_on(game, player, tries, pair, move)
        if pair is None:
            return (("move", k), None)
    return (None, pair)


def rows_number(trier, pair, numbers, kept):
    """A number for what alone_rows tells from pair on: two pairs have the same one if it tells the same of both.

    numbers are those that are given so far, by results and the numbers behind them; kept those of pairs.
    """
    if pair not in kept:
        found = {(told, rows_number(trier, behind, numbers, kept)): True for _, told, behind in trier.tried(pair)}
        kept[pair] = numbers.setdefault(tuple(sorted(list(found))), len(numbers))
    return kept[pair]


def disturbs(game, player, known, tries):
    """A shortest way to a move of others that disturbs, as a quadruple; None if none does."""
    trier = Trier(game, player, tries)
    pairs = lot_of(trier, known)
    numbers = {}
    kept = {}
    for pair in pairs:
        here = rows_number(trier, pair, numbers, kept)
        for move, behind in trier.others(pair):
            if rows_number(trier, behind, numbers, kept) != here:
                (_, state), moves = way_to(pairs, pair)
                return (state, moves, pair[0], move)
    return None


def disturbs_error(game, player, known, tries, value):
    """None if value, any value, is such a quadruple, however long its way is; otherwise what is wrong with it."""
    if not is_row(value, 4, 4) or not isinstance(value[0], tuple) or not is_moves(value[1]):
        return "form"
    state, moves, many, move = value
    if not is_integer(many) or not is_pair(move):
        return "form"
    error, pair = gone_from(game, player, known, tries, state, moves)
    if error is not None:
        return error
    if many != pair[0] or many >= len(tries):
        return "place"
    behind = stepped_on(game, player, tries, pair, move)
    if behind is None or behind[0] != many:
        return "alike"
    rest = tries[many:]
    return "alike" if alone_rows(game, pair[1], rest) == alone_rows(game, behind[1], rest) else None

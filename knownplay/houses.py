"""Houses: a game, its wire, and what else whoever runs it for others promises by; and how to mend one."""

from knownplay.bounds import MAX_LAG
from knownplay.cuts import owners_error, uncut
from knownplay.games import game_error
from knownplay.joiners import rule_error
from knownplay.justparts import greatest
from knownplay.likeness import as_good
from knownplay.mixing import ordered
from knownplay.values import is_row
from knownplay.watchers import is_lag, reach
from knownplay.wires import wire_error


def house_error(value):
    """None if value, any value, is a house; otherwise what is wrong with it."""
    if not is_row(value, 6, 6):
        return "form"
    game, wire, rule, lag, owners, spare = value
    error = game_error(game)
    if error is not None:
        return ("game", error)
    error = wire_error(game, wire)
    if error is not None:
        return ("wire", error)
    error = rule_error(game, rule)
    if error is not None:
        return ("rule", error)
    if not is_lag(lag):
        return "lag"
    if owners_error(game, owners) is not None:
        return "owners"
    wrong = uncut(game, owners)
    if wrong:
        return ("deed", wrong[0])
    error = wire_error(game, spare)
    return None if error is None else ("spare", error)


def mended(house):
    """A house of the same game and rule that does better; TooMany as by greatest, reach and as_good."""
    game, wire, rule, lag, owners, spare = house
    players = range(game[0])
    for player in players:
        wire = greatest(game, wire, player)
    # All players are asked, whatever is told of the first ones, as each may tell of too many.
    reaches = [reach(game, wire, player) for player in players]
    worse = [as_good(game, spare, wire, player) is not None for player in players]
    if None not in reaches and max(lag, max(reaches)) <= MAX_LAG:
        lag = max(lag, max(reaches))
    if not ordered(game, owners):
        owners = (0,) * len(game[1])
    return (game, wire, rule, lag, owners, wire if any(worse) else spare)

"""Audits: seven promises of a house, of each a paper by which it is kept, or a tale of how it is broken."""

from knownplay.comparing import comparing, comparing_error, comparing_paper, comparing_paper_error
from knownplay.errors import TooMany
from knownplay.histories import history_error, ring_of
from knownplay.joiners import join_gap, join_paper, join_paper_error, join_spill, join_tale_error
from knownplay.justpapers import just_paper, just_paper_error
from knownplay.leaks import lack, lack_error, leak, leak_error
from knownplay.leanings import leaning, leaning_error
from knownplay.leanpapers import lean_paper, lean_paper_error
from knownplay.likeness import as_good, as_good_error, good_paper, good_paper_error
from knownplay.mixing import bad_history, sorting, sorting_error
from knownplay.values import is_row, is_whole
from knownplay.watchers import helps, helps_error, reach_error, reach_paper

# How many promises there are, and their numbers; the last one, of the spare wire, has the number 6.
PROMISES = 7
JUST = 0
LEANS = 1
JOINERS = 2
WATCHERS = 3
COMPARING = 4
SHARDS = 5

# What tales of the promises of these two numbers tell behind the player.
JUST_WORDS = ("leak", "lack")
JOINER_WORDS = ("gap", "spill")


def copies_of(game):
    """The tuple of all deeds of game, each of them twice."""
    return tuple([deed for deed in range(len(game[2])) for _ in range(2)])


def first_tale(house, number, player):
    """A tale of how the promise of this number is broken for player, without it; None if there is none."""
    game, wire, rule, lag, _, spare = house
    if number == JUST:
        return worded("leak", leak(game, wire, player)) or worded("lack", lack(game, wire, player))
    if number == LEANS:
        return alone(leaning(game, wire, player))
    if number == JOINERS:
        gap = worded("gap", join_gap(game, wire, player, rule))
        return gap or worded("spill", join_spill(game, wire, player, rule))
    if number == WATCHERS:
        return alone(helps(game, wire, player, lag))
    return alone(as_good(game, spare, wire, player))


def worded(word, tale):
    """The tuple of word and tale; None if there is no tale."""
    return None if tale is None else (word, tale)


def alone(tale):
    """The tuple of tale alone; None if there is none."""
    return None if tale is None else (tale,)


def paper_for(house, number, player):
    """A paper by which the promise of this number is kept for player, for whom there is no tale."""
    game, wire, rule, _, _, spare = house
    if number == JUST:
        return just_paper(game, wire, player)
    if number == LEANS:
        return lean_paper(game, wire, player)
    if number == JOINERS:
        return tuple([join_paper(game, wire, player, rule, word) for word in JOINER_WORDS])
    if number == WATCHERS:
        return reach_paper(game, wire, player)
    return good_paper(game, spare, wire, player)


def shown_by_players(house, number):
    """The pair for a promise that is made to each player."""
    papers = []
    for player in range(house[0][0]):
        tale = first_tale(house, number, player)
        if tale is not None:
            return ("broken", (player, *tale))
        papers.append(paper_for(house, number, player))
    return ("kept", tuple(papers))


def shown_of_comparing(house):
    """The pair for the promise that players who compare two by two find each lie."""
    game, wire, _, _, _, _ = house
    if game[0] == 2:
        return ("kept", ())
    tale = comparing(game, wire, 2)
    return ("kept", comparing_paper(game, wire, 2)) if tale is None else ("broken", tale)


def shown_of_shards(house):
    """The pair for the promise that no history of deeds has a ring."""
    game, _, _, _, owners, _ = house
    copies = copies_of(game)
    tale = bad_history(game, owners, copies)
    return ("kept", sorting(game, owners, copies)) if tale is None else ("broken", tale)


def shown_of(house, number):
    """The pair for the promise of this number."""
    if number == COMPARING:
        return shown_of_comparing(house)
    return shown_of_shards(house) if number == SHARDS else shown_by_players(house, number)


def audit(house):
    """For each promise of house a pair: that it is kept, by a paper, or broken, by a tale, or that it is left open."""
    found = []
    for number in range(PROMISES):
        try:
            shown = shown_of(house, number)
        except TooMany as error:
            shown = ("open", error.limit)
        found.append(shown)
    return tuple(found)


def audit_error(house, value):
    """None if value, any value, tells of each promise of house that it is kept or broken, rightly; else what is wrong.

    It raises TooMany as the judges of the parts do.
    """
    if not is_row(value, PROMISES, PROMISES) or not all([is_row(item, 2, 2) for item in value]):
        return "form"
    for number, (word, thing) in enumerate(value):
        error = pair_error(house, number, word, thing)
        if error is not None:
            return (number, error)
    return None


def pair_error(house, number, word, thing):
    """What is wrong with the pair of word and thing, any values, for the promise of this number; otherwise None."""
    if word not in ("kept", "broken", "open"):
        return "word"
    if word == "open":
        return "open"
    if number == COMPARING:
        return comparing_pair_error(house, word, thing)
    if number == SHARDS:
        return shards_pair_error(house, word, thing)
    if word == "kept":
        return papers_error(house, number, thing)
    return tale_error(house, number, thing) if is_tale(house, number, thing) else "form"


def comparing_pair_error(house, word, thing):
    """What is wrong with a paper or a tale of comparing, as word tells; otherwise None."""
    game, wire, _, _, _, _ = house
    if game[0] == 2:
        return None if word == "kept" and is_row(thing, 0, 0) else "form"
    if word == "kept":
        return comparing_paper_error(game, wire, 2, thing)
    return comparing_error(game, wire, 2, thing)


def shards_pair_error(house, word, thing):
    """What is wrong with a paper or a tale of shards, as word tells; otherwise None."""
    game, _, _, _, owners, _ = house
    copies = copies_of(game)
    if word == "kept":
        return sorting_error(game, owners, copies, thing)
    some = tuple([(deed, 0) for deed in copies])
    error = history_error(game, owners, some, thing)
    if error is not None:
        return error
    return "ordered" if ring_of(game, owners, some, thing) is None else None


def is_tale(house, number, value):
    """Whether value, any value, has the form of a tale of a promise that is made to each player."""
    many = 3 if number in (JUST, JOINERS) else 2
    if not is_row(value, many, many) or not is_whole(value[0], 0, house[0][0] - 1):
        return False
    if many == 2:
        return True
    return value[1] in (JUST_WORDS if number == JUST else JOINER_WORDS)


def tale_error(house, number, thing):
    """What is wrong with thing, of the form of a tale of a promise that is made to each player; otherwise None."""
    game, wire, rule, lag, _, spare = house
    player, word, tale = thing[0], thing[1], thing[-1]
    if number == JUST:
        judge = leak_error if word == "leak" else lack_error
        return judge(game, wire, player, tale)
    if number == LEANS:
        return leaning_error(game, wire, player, tale)
    if number == JOINERS:
        return join_tale_error(game, wire, player, rule, word, tale)
    if number == WATCHERS:
        return helps_error(game, wire, player, lag, tale)
    return as_good_error(game, spare, wire, player, tale)


def papers_error(house, number, value):
    """What is wrong with value, any value, as papers for each player; otherwise None."""
    players = house[0][0]
    if not is_row(value, players, players):
        return "form"
    if number == JOINERS and not all([is_row(item, 2, 2) for item in value]):
        return "form"
    for player, paper in enumerate(value):
        error = paper_error(house, number, player, paper)
        if error is not None:
            return (player, error)
    return None


def paper_error(house, number, player, paper):
    """What is wrong with paper, any value, as one for player; otherwise None."""
    game, wire, rule, lag, _, spare = house
    if number == JUST:
        return just_paper_error(game, wire, player, paper)
    if number == LEANS:
        return lean_paper_error(game, wire, player, paper)
    if number == JOINERS:
        for word, its_paper in zip(JOINER_WORDS, paper):
            error = join_paper_error(game, wire, player, rule, word, its_paper)
            if error is not None:
                return error
        return None
    if number == WATCHERS:
        error = reach_error(game, wire, player, paper)
        return error if error is not None else lag_error(lag, paper)
    return good_paper_error(game, spare, wire, player, paper)


def lag_error(lag, paper):
    """What is wrong with a paper of reach, if it does not show that a watcher with this lag never helps."""
    if paper[0] == "ring":
        return "ring"
    return "lag" if any([rank >= lag for _, _, rank in paper[2]]) else None

"""The bounds, the errors, and how the functions are called."""

import copy
import inspect
import itertools
import unittest

from knownplay import audits, bounds, classes, comparing, cuts, errors, firmness, games, gametexts, gaps, halllogs, halls
from knownplay import histories, houses, joiners, justpapers, justparts, knowngames, knownwires, leaks, leanings, leanpapers
from knownplay import lies, likeness, mixing, odds, plays, playtexts, roads, sets, settables, shells, terms, termtexts, tries
from knownplay import views, watchers, wires, wiretexts
from tests.test_classes import DIE, HIGH, KEEN, LOW
from tests.test_histories import MINGLED, TWO
from tests.test_houses import GOSSIP, PARLOUR
from tests.test_leaks import BLAB, BOX, FAIR, MUTE, WHETHER
from tests.test_lies import EARLY, MUTE as ONE_EAR, PARITY, SHOWN, TOSS
from tests.test_odds import BEGUN, HINT, HUMMING, TOSSED
from tests.test_sets import FLIP, QUIET, SPOKEN
from tests.test_tries import LAMP
from tests.things import ALL_WORDS, ASKED_CARD, CARD, HIDE, ODD_VALUES, YES
from tests.weaving import OWNERS, STORE

BOUNDS = {
    "MAX_DEEP": 6, "MAX_PARTS": 60, "MAX_PLAYERS": 4, "MAX_CELLS": 6, "MAX_SIZE": 6, "MAX_DEEDS": 8,
    "MAX_OUTCOMES": 4, "MAX_TABLE": 3000, "MAX_ENTRIES": 7, "MAX_LAG": 200, "MAX_EVENTS": 400, "MAX_NUMBER": 10000,
    "MAX_OPEN": 8, "MAX_TRIES": 4, "MAX_PLANES": 100, "MAX_HINTED": 30, "MAX_SHARDS": 6, "MAX_OCCURRENCES": 16,
    "MAX_EDITS": 120, "MAX_GUESTS": 4,
}

ERRORS = {
    "Unfit": (), "BadText": ("place",), "BadTerm": ("error",), "BadGame": ("error",), "BadWire": ("error",),
    "BadRule": ("error",), "BadLog": ("place",), "Refused": ("word",), "TooMany": ("limit",), "TooManyEdits": (),
    "NothingToUndo": (), "NothingToRedo": (),
}

PLACE = (2, ALL_WORDS)
TERM = ("choose", ("both", ("done",), ("yes",)), ("was", 1), ("less", ("draw",), ("cell", 0)))
CONDITION = ("either", ("same", ("deed",), ("is", 7)), ("not", ("below", TERM, ("is", 1))))
MOMENT = ((3, 4), (5, 6), 7, 8, True)
NAMING = ((1, 0), (1, 0), (1, 0))
LISTS = ["sum", [{"is": 0}], ("is", [0])]
PLAY = ((0, 2), (2, 0), (1, 0), (2, 1))
VIEW = ((None, (None, 0)), (0, (1, None)), (("no", 2), (1, 1)))
WIRE = (((YES, ("cell", 0)), (("done",), ("was", 1))), ((("not", YES), ("deed",)), (YES, ("draw",))))
LETTERS = ((1, None), (None, 3), (-1, 4), (None, 3))

# For each function its module and some calls, the arguments by name in the order that the document tells.
CALLS = {
    "term_error": (terms, [{"place": PLACE, "value": TERM}, {"place": PLACE, "value": LISTS}]),
    "condition_error": (terms, [{"place": PLACE, "value": CONDITION}, {"place": PLACE, "value": LISTS}]),
    "worth": (terms, [{"term": TERM, "moment": MOMENT}]),
    "holds": (terms, [{"condition": CONDITION, "moment": MOMENT}]),
    "asked": (terms, [{"thing": TERM}, {"thing": CONDITION}]),
    "term_text": (termtexts, [{"term": TERM}]),
    "condition_text": (termtexts, [{"condition": CONDITION}]),
    "read_term": (termtexts, [{"place": PLACE, "value": "(c0 + w1)"}, {"place": PLACE, "value": LISTS}]),
    "read_condition": (termtexts, [{"place": PLACE, "value": "(c0 = c9)"}, {"place": PLACE, "value": LISTS}]),
    "game_error": (games, [{"value": CARD}, {"value": LISTS}, {"value": (2, ((2, 0),), (LISTS,), LISTS)}]),
    "first_state": (games, [{"game": CARD}]),
    "renamed": (games, [{"game": CARD, "naming": NAMING}, {"game": CARD, "naming": [[0, 1], [0, 1], [0, 1]]}]),
    "game_text": (gametexts, [{"game": CARD}]),
    "read_game": (gametexts, [{"value": "players 2\ncell 2 0\nset 0 to 1"}, {"value": LISTS}]),
    "known_names": (knowngames, [{}]),
    "known_game": (knowngames, [{"name": "cups"}, {"name": LISTS}]),
    "moves": (plays, [{"game": ASKED_CARD, "state": (2, 1)}]),
    "is_done": (plays, [{"game": ASKED_CARD, "state": (2, 1), "move": (1, 0)}]),
    "stepped": (plays, [{"game": ASKED_CARD, "state": (2, 1), "move": move} for move in ((2, 1), (0, 0), LISTS)]),
    "play_error": (plays, [{"game": ASKED_CARD, "value": value} for value in (PLAY, LISTS, ((0, 2), LISTS))]),
    "state_of": (plays, [{"game": ASKED_CARD, "play": PLAY}]),
    "states": (plays, [{"game": ASKED_CARD}]),
    "nearest": (plays, [{"game": ASKED_CARD, "state": state} for state in ((2, 1), (3, 1), LISTS, ([0], 0))]),
    "sight": (views, [{"game": ASKED_CARD, "player": 1, "state": (2, 0)}]),
    "view": (views, [{"game": ASKED_CARD, "player": 1, "play": PLAY}]),
    "alike_to": (views, [{"game": ASKED_CARD, "player": 1, "play": PLAY[:1], "other": ((0, 1),)},
                         {"game": ASKED_CARD, "player": 1, "play": PLAY[:1], "other": ((1, 0),)}]),
    "play_text": (playtexts, [{"play": PLAY}]),
    "view_text": (playtexts, [{"view": VIEW}]),
    "read_play": (playtexts, [{"value": "0:2 2:0"}, {"value": "0:2 2"}, {"value": LISTS}]),
    "wire_error": (wires, [{"game": HIDE, "value": value} for value in (WIRE, LISTS, (WIRE[0], (LISTS,)))]),
    "wire_without": (wires, [{"wire": WIRE, "player": 1, "entries": entries} for entries in ((0,), (2,), LISTS)]),
    "letter": (wires, [{"game": HIDE, "wire": WIRE, "player": 1, "state": (1, 2), "move": (1, 0)}]),
    "first_letter": (wires, [{"game": HIDE, "wire": WIRE, "player": 1}]),
    "letter_order": (wires, [{"some": LETTERS}]),
    "heard": (wires, [{"game": HIDE, "wire": WIRE, "ears": (0, 1), "play": ((0, 0), (1, 1))}]),
    "heard_by": (wires, [{"game": HIDE, "wire": WIRE, "player": 1, "play": ((0, 0), (1, 1))}]),
    "plain_wire": (knownwires, [{"game": HIDE}]),
    "changes_wire": (knownwires, [{"game": HIDE}]),
    "bare_wire": (knownwires, [{"game": HIDE}]),
    "silent_wire": (knownwires, [{"game": HIDE}]),
    "wire_text": (wiretexts, [{"wire": WIRE}]),
    "read_wire": (wiretexts, [{"game": HIDE, "value": value} for value in ("to\nif yes tell c1\nto", "to", LISTS)]),
}


HEARD_SO = (((None, 0),), ((None, 0),))
LISTEN = {"game": FLIP, "wire": QUIET, "ears": (1,)}
ASKED = {"game": DIE, "wire": KEEN, "ears": (0,)}
SEEN = {"game": BOX, "wire": (BLAB, MUTE), "player": 1}
SEEN_TOO = {"game": BOX, "wire": (BLAB, FAIR), "player": 0}
JOIN = {"game": DIE, "wire": KEEN, "player": 0, "rule": ((("same", ("cell", 0), ("is", 0)), ("is", 7)),)}
WATCH = {"game": FLIP, "wire": SPOKEN, "player": 1}
LIKE = {"game": FLIP, "wire": QUIET, "other": SPOKEN, "player": 1}
LIE = {"game": PARITY, "wire": SHOWN, "player": 0}
TOLD = (((0,), [1]), None, ((0,),))
GAPPED = {"game": DIE, "wire": KEEN, "player": 0, "row": ((3, None), None, (2, 1))}
TABLE = settables.set_table(FLIP, QUIET, (1,))
DEVICE = (((3, None),), ((2, [2, 1]), (5, {})))
RUN = (("tick", 0, 1), ("come", 0), ("tick", 2, 0), ("come", 2), ("ask", 1))


def with_each(call, name, *values):
    """The calls that have, beside those of call, an argument of this name: each of these values."""
    return [{**call, name: value} for value in values]


# The same for what is known: papers and tales, and values with lists and dicts in them that are to stay as they are.
CALLS.update({
    "begun": (sets, [LISTEN]),
    "gone_on": (sets, with_each({**LISTEN, "some": ((0, 0), (1, 0))}, "letters", ((1, 1),), [[1, 1]], ([1, 1],))),
    "next_letters": (sets, [{**LISTEN, "some": ((0, 0), (1, 0))}]),
    "known": (sets, with_each(LISTEN, "row", HEARD_SO, list(HEARD_SO), (HEARD_SO[0], [[None, 0]]))),
    "sure": (sets, [{"game": FLIP, "some": ((0, 0), (1, 0))}]),
    "witnesses": (sets, with_each(LISTEN, "row", HEARD_SO, [list(HEARD_SO)])),
    "wrong_play": (sets, with_each({**LISTEN, "row": HEARD_SO}, "shown", (1, 0), (None, 0), (2, 0), [None, 0])),
    "set_table": (settables, [LISTEN]),
    "number_of": (settables, with_each({"table": TABLE}, "row", HEARD_SO, list(HEARD_SO), (0, [(None, 0)]))),
    "row_to": (settables, with_each(LISTEN, "some", ((1, 1),), [(1, 1)], ((0, 0), (1, 1)))),
    "table_error": (settables, with_each(LISTEN, "value", TABLE, list(TABLE), TABLE[:2], (TABLE[0], ([], {})))),
    "pairs_by_views": (leaks, [{"game": BOX, "player": 1}]),
    "pairs_by_rows": (leaks, [SEEN]),
    "leak": (leaks, [SEEN, SEEN_TOO]),
    "lack": (leaks, [SEEN, SEEN_TOO]),
    "leak_error": (leaks, with_each(SEEN_TOO, "value", (((0, 0),), ((0, 1),)), [[], []], ([(0, 0)], ((0, 0),)))),
    "lack_error": (leaks, with_each(SEEN, "value", (((0, 0),), ((0, 1),)), [[], []], ((), ([0, 0],)))),
    "just_paper": (justpapers, [SEEN, {**SEEN, "wire": (FAIR, FAIR)}]),
    "just_paper_error": (justpapers, with_each(SEEN, "value", (((0, 0), (0, 0)),), [((0, 0), (0, 0))],
                                               (([0, 0], {}),))),
    "is_just": (justpapers, [SEEN, {**SEEN, "wire": (FAIR, FAIR)}]),
    "lasting": (justpapers, [SEEN, SEEN_TOO]),
    "lasting_paper": (justpapers, [SEEN, {**SEEN, "wire": (FAIR, FAIR)}]),
    "lasting_error": (justpapers, with_each(SEEN, "value", (((0, 0), ((0, 0),)),), [], (((0, 0), [(0, 0)]),))),
    "spilling": (justparts, [SEEN, SEEN_TOO]),
    "greatest": (justparts, [SEEN_TOO]),
    "can_be_just": (justparts, [SEEN, SEEN_TOO]),
    "classes": (classes, [ASKED]),
    "parting": (classes, [{**ASKED, "row": LOW, "other": HIGH}, {**ASKED, "row": [LOW], "other": LOW}]),
    "parting_error": (classes, with_each({**ASKED, "row": LOW, "other": HIGH}, "value", (((2, 1),),), [], ([[2, 1]],))),
    "class_paper": (classes, [ASKED]),
    "class_paper_error": (classes, with_each(ASKED, "value", classes.class_paper(**ASKED), [[0]], ([0, 1, 1, 2, 3],))),
    "memories": (classes, [ASKED]),
    "memories_error": (classes, with_each(ASKED, "value", classes.memories(**ASKED), [], (([], {}),))),
    "shown_by": (classes, with_each({"table": classes.memories(**ASKED)}, "row", LOW[1:], list(LOW), ([0],))),
    "rule_error": (joiners, with_each({"game": DIE}, "value", JOIN["rule"], [], ((["yes"], {}),))),
    "join_letter": (joiners, [{"game": DIE, "rule": JOIN["rule"], "state": (2,)}]),
    "joined": (joiners, with_each({"game": DIE, "rule": JOIN["rule"]}, "letter", (None,), [None], ([],))),
    "join_gap": (joiners, [JOIN, {**JOIN, "rule": ()}]),
    "join_spill": (joiners, [JOIN, {**JOIN, "rule": ()}]),
    "join_tale_error": (joiners, with_each({**JOIN, "word": "gap"}, "value", (((0, 1),), ((2, 0),)), [[], []],
                                           ((), ([],)))),
    "join_paper": (joiners, with_each(JOIN, "word", "gap", "spill")),
    "join_paper_error": (joiners, with_each({**JOIN, "word": "spill"}, "value", (), [], (((0,), [(0,)], {}),))),
    "watched": (watchers, with_each({**WATCH, "lag": 1}, "play", ((0, 1), (2, 0)), ())
                + [{**WATCH, "lag": [1], "play": ()}]),
    "helps": (watchers, with_each(WATCH, "lag", 2, [2], 201)),
    "helps_error": (watchers, with_each({**WATCH, "lag": 1}, "value", ((0, 1), (2, 0)), [(0, 1)], ([0, 1],))),
    "reach": (watchers, [WATCH, {**WATCH, "wire": QUIET}]),
    "reach_paper": (watchers, [WATCH, {**WATCH, "wire": QUIET}]),
    "reach_error": (watchers, with_each(WATCH, "value", watchers.reach_paper(**WATCH), ("ranks", [], {}),
                                        ("ring", (), [], (), ()),
                                        ["ranks", (), ()])),
    "as_good": (likeness, [LIKE, {**LIKE, "wire": SPOKEN}]),
    "as_good_error": (likeness, with_each(LIKE, "value", ((2, 0),), [[2, 0]], ([2, 0],))),
    "good_paper": (likeness, [LIKE, {**LIKE, "wire": SPOKEN}]),
    "good_paper_error": (likeness, with_each(LIKE, "value", likeness.good_paper(FLIP, SPOKEN, QUIET, 1), [],
                                             (([], {}, ()),))),
    "cheaper": (likeness, [WATCH]),
    "told_error": (lies, with_each({"game": PARITY}, "value", TOLD, list(TOLD), (None, [], {}))),
    "honest": (lies, with_each({"game": PARITY, "wire": EARLY}, "told", TOLD, (((0,), (1,)), None, ((0,),)))),
    "honest_error": (lies, with_each({"game": PARITY, "wire": EARLY, "told": TOLD}, "value", ((0, 3),), [], ([0, 3],))),
    "found_at": (lies, with_each({"game": PARITY, "wire": EARLY}, "told", TOLD, (((0,), (1,)), None, ((0,),)))),
    "finders": (lies, with_each({"game": PARITY, "wire": EARLY}, "told", TOLD, (((0,), (1,)),) * 3)),
    "lie_for_good": (lies, [LIE, {"game": TOSS, "wire": ONE_EAR, "player": 0}]),
    "good_error": (lies, with_each({"game": TOSS, "wire": ONE_EAR, "player": 0}, "value", (((0, 0),), ((0,), (1,)), 0),
                                   [((0, 0),), ((0,), [1]), 0], (((0, 0),), ((0,), [1]), 0),
                                   (((0, 0),), ((0,), (1,)), []))),
    "lie_lasts": (lies, [LIE, {"game": TOSS, "wire": ONE_EAR, "player": 0}]),
    "longest_lie": (lies, [LIE, {"game": TOSS, "wire": ONE_EAR, "player": 0}]),
    "lie_error": (lies, with_each({**LIE, "number": 1}, "value", (((0, 0),), ((0,), (1,))), [[], []],
                                  (((0, 0),), ((0,), {})))),
    "lie_paper": (lies, [LIE, {"game": TOSS, "wire": ONE_EAR, "player": 0}]),
    "lie_paper_error": (lies, with_each(LIE, "value", lies.lie_paper(**LIE), [0, (), ()], (0, [], {}),
                                        (1, (([], {}),), ()))),
    "comparing": (comparing, with_each({"game": PARITY, "wire": EARLY}, "many", 1, 2)),
    "comparing_error": (comparing, with_each({"game": PARITY, "wire": EARLY, "many": 2}, "value", TOLD, list(TOLD),
                                             (((0,), (1,)),) * 3, (None, [], {}))),
    "comparing_paper": (comparing, [{"game": PARITY, "wire": SHOWN, "many": 2},
                                    {"game": PARITY, "wire": EARLY, "many": 2}]),
    "comparing_paper_error": (comparing, with_each({"game": PARITY, "wire": SHOWN, "many": 2}, "value",
                                                   comparing.comparing_paper(PARITY, SHOWN, 2), [], (([], {}, ()),))),
    "device_error": (roads, with_each({}, "value", DEVICE, list(DEVICE), ((), ([1, 2],)))),
    "taken": (roads, [{"device": DEVICE, "number": number, "letter": [7]} for number in (0, 1, 2, 3, 9)]),
    "lacking": (roads, [{"device": DEVICE}]),
    "gap_row": (roads, [{"device": DEVICE}]),
    "run_error": (roads, with_each({"game": DIE, "wire": KEEN, "player": 0}, "value", RUN, list(RUN),
                                   (["tick", 0, 1],))),
    "road_end": (roads, [{"game": DIE, "wire": KEEN, "player": 0, "run": RUN}]),
    "mending": (roads, [{"device": DEVICE}]),
    "known_by_gaps": (gaps, [GAPPED, {**GAPPED, "row": [None]}, {**GAPPED, "row": (None, [0, None])}]),
    "asked_enough": (gaps, with_each(GAPPED, "numbers", (), (1,), [1], (0,))),
    "full_error": (gaps, with_each({**GAPPED, "numbers": ()}, "value", ((3, None), (0, None), (2, 1)), [],
                                   (None, [0], {}))),
    "least_asked": (gaps, [GAPPED, {**GAPPED, "row": (None,) * 9}, {**GAPPED, "row": [None]}]),
    "gap_paper": (gaps, with_each(GAPPED, "numbers", (), (1,), [1])),
    "gap_paper_error": (gaps, with_each({**GAPPED, "numbers": (1,)}, "value", gaps.gap_paper(**GAPPED, numbers=(1,)),
                                        [],
                                        ([], {}, ((((0,),), [(0,)]),)))),
})

TRIED = {"game": LAMP, "player": 0, "known": ((0, 0, 0), (1, 0, 0)), "tries": (2, 0)}
ROW = (("set", ((2, 1),)), None)
CHANCED = {"game": HUMMING, "wire": HINT, "ears": (1,), "deeds": (0, 1)}
HEARD_HUM = BEGUN + TOSSED + (((0, 1),),)
LEANED = {"game": HUMMING, "wire": HINT, "player": 1}
CUT = {"game": STORE, "owners": OWNERS}
DONE = {**CUT, "some": TWO}
PLAIN_ROW = ((("set", ((2, 1),)), ("set", ((1, 0),))), ((1, 0), (2, 0), (0, 0)))
LOTS = ((("own", 0, 0), ("own", 1, 0)), [("meet", 0, 0, 1, 0)], {})
CALL_LOG = (("serve", 0, 1), ("offer", 0, 1), ("take", 0, 0))
HALL = {"game": BOX, "wire": (FAIR, FAIR), "rule": (WHETHER,)}

# The same for tries, odds, shards, houses and logs.
CALLS.update({
    "result": (tries, [{"game": LAMP, "state": (1, 0, 0), "move": move} for move in ((0, 0), (1, 0), (3, 0))]),
    "alone_rows": (tries, [{"game": LAMP, "state": (1, 0, 0), "tries": some} for some in ((), (2, 0, 3))]),
    "guess_alone": (tries, [TRIED]),
    "guess_cells": (tries, [TRIED]),
    "tries_lot": (firmness, [TRIED]),
    "firm_row": (firmness, [TRIED]),
    "firm_then": (firmness, [TRIED]),
    "firm_cells": (firmness, [TRIED]),
    "firm_error": (firmness, with_each(TRIED, "value", ROW, list(ROW), (("set", [(2, 1)]), []),
                                       (("set", ([],)), None))),
    "firm_paper": (firmness, with_each(TRIED, "shown", ROW, PLAIN_ROW[0])),
    "firm_paper_error": (firmness, with_each({**TRIED, "shown": ROW}, "value", firmness.tries_lot(**TRIED), [],
                                             ((0, [0, 0, 0]), {}))),
    "firm_tale": (firmness, with_each(TRIED, "shown", ROW, PLAIN_ROW[0])),
    "firm_tale_error": (firmness, with_each({**TRIED, "shown": PLAIN_ROW[0]}, "value", ((0, 0, 0), PLAIN_ROW[1]),
                                            [[], []],
                                            ((0, 0, 0), [(1, 0)]), ((0, [0], 0), ((1, 0),)))),
    "disturbs": (firmness, [TRIED]),
    "disturbs_error": (firmness, with_each({**TRIED, "tries": (0,)}, "value", ((0, 0, 0), (), 0, (1, 0)), [],
                                           ((0, 0, 0), [], 0, {}))),
    "odds": (odds, with_each(CHANCED, "row", HEARD_HUM, list(HEARD_HUM), HEARD_HUM[:2] + ([(0, 1)],))),
    "foretold": (odds, [{**CHANCED, "row": row, "cell": 0} for row in ((), BEGUN + TOSSED, [BEGUN], ([], {}))]),
    "rows_by": (odds, [CHANCED]),
    "hit": (odds, [{**CHANCED, "cell": 0}]),
    "guess": (odds, [{**CHANCED, "row": row, "cell": 0} for row in (HEARD_HUM, [HEARD_HUM], ([], {}))]),
    "leaning": (leanings, [LEANED, {**LEANED, "player": 0}]),
    "leaning_error": (leanings, with_each(LEANED, "value", ((0, 0), (1, 0)), [(0, 0)], ((0, 0), [1, 0]))),
    "lean_paper": (leanpapers, [LEANED, {**LEANED, "wire": ((), ())}]),
    "lean_paper_error": (leanpapers, with_each(LEANED, "value", ((((0, 0, 1),),), (), ()), [], ([], [], []),
                                               ((([0, 0, 1],),), ({},), ()))),
    "owners_error": (cuts, with_each({"game": STORE}, "value", OWNERS, list(OWNERS), (0, [1], 1))),
    "uncut": (cuts, [CUT]),
    "pieces": (cuts, [{**CUT, "deed": deed} for deed in (0, 2, 4)]),
    "history_error": (histories, with_each(DONE, "value", MINGLED, list(MINGLED), (([0], 0),), ((0, 0), {}))),
    "done_by_pieces": (histories, [{**CUT, "state": (0, 0, 0), "some": TWO, "history": MINGLED}]),
    "done_whole": (histories, [{"game": STORE, "state": (0, 0, 0), "some": TWO, "order": (1, 0)}]),
    "follows": (histories, [{**DONE, "history": MINGLED}, {**CUT, "some": ((2, 0),), "history": ((0, 0),)}]),
    "ring_of": (histories, [{**DONE, "history": MINGLED}]),
    "order_of": (histories, [{**DONE, "history": MINGLED}]),
    "ring_error": (histories, with_each({**DONE, "history": MINGLED}, "value", (1, 0), [1, 0], ([1], 0), (0, {}))),
    "order_error": (histories, with_each({**DONE, "history": MINGLED}, "value", (1, 0), [1, 0], ([1], 0), (0, {}))),
    "mixed_ring": (mixing, [{**CUT, "many": (0, 0)}, {**CUT, "many": (0, 2)}]),
    "mixed_error": (mixing, with_each({**CUT, "many": (0, 0)}, "value", ((0, 1, 0), (1, 0, 1)), [], ((0, [1], 0), {}))),
    "bad_history": (mixing, [{**CUT, "many": (0, 0)}, {**CUT, "many": (0, 1, 3)}]),
    "sorting": (mixing, [{**CUT, "many": (0, 1, 3)}, {**CUT, "many": (0, 0)}]),
    "sorting_error": (mixing, with_each({**CUT, "many": (0, 0)}, "value", LOTS[:1], list(LOTS), LOTS)),
    "ordered": (mixing, [CUT, {"game": STORE, "owners": (0, 0, 0)}]),
    "house_error": (houses, with_each({}, "value", PARLOUR, list(PARLOUR), (BOX, [], {}, [], {}, []))),
    "mended": (houses, [{"house": PARLOUR}, {"house": GOSSIP}]),
    "audit": (audits, [{"house": PARLOUR}, {"house": GOSSIP}]),
    "audit_error": (audits, [{"house": PARLOUR, "value": value}
                             for value in (audits.audit(PARLOUR), [], (("kept", [[], {}]),) * 7,
                                                                             (("broken", (0, "leak", [])),) * 7,
                                                                             (([], {}),) * 7)]),
    "rule_text": (halllogs, with_each({}, "rule", (), (WHETHER,))),
    "read_rule": (halllogs, with_each({"game": BOX}, "value", "if yes tell c1", "if yes tell c2", "none",
                                      ["if yes tell c1"])),
    "log_text": (halllogs, [{"log": CALL_LOG}]),
    "read_log": (halllogs, with_each({}, "value", "undo\nmend 1", "mend", ["undo"], {})),
    "hall_behind": (halllogs, with_each(HALL, "value", CALL_LOG, list(CALL_LOG), CALL_LOG + (["undo"],),
                                        (("serve", [0], {}),))),
    "hall_log": (halllogs, [{"hall": halllogs.hall_behind(**HALL, value=CALL_LOG)}]),
})

# The methods of the two classes, with arguments by names; each is called of an object behind some edits.
HALL_METHODS = {
    "offer": {"player": 0, "deed": 1}, "take": {"player": 0, "drawn": 0}, "serve": {"deed": 0, "drawn": 0},
    "come": {"player": 0, "number": 1}, "twice": {"player": 1, "number": 0}, "lose": {"player": 1, "number": 0},
    "ask": {"player": 0, "number": 1}, "mend": {"player": 1}, "join": {"player": 1}, "undo": {}, "redo": {}, "twin": {},
    "sent": {"player": 0}, "road": {"player": 0}, "device": {"player": 1}, "tick": {"player": 1},
    "lacks": {"player": 1},
    "on_the_way": {"player": 0}, "open_tries": {"player": 0}, "shown": {"player": 1}, "ahead": {"player": 1},
    "firm": {"player": 0}, "guests": {"player": 0}, "guest_shown": {"player": 0, "place": 0},
    "elder_shown": {"player": 0},
    "watched_shown": {"player": 0, "lag": 1}, "accused": {},
}
HALL_ATTRIBUTES = ("game", "wire", "rule", "play", "state", "version", "undone", "edits")


def some_hall():
    """A hall of which each of these calls can be made."""
    log = (("serve", 0, 1), ("offer", 0, 1), ("come", 1, 1), ("come", 0, 0), ("join", 0), ("offer", 0, 1), ("undo",))
    return halllogs.hall_behind(**HALL, value=log)


def outcome(function, *args, **named):
    """What a call returns, or the error that it raises, as Python shows it."""
    try:
        return repr(function(*args, **named))
    except errors.KnowError as error:
        return f"{type(error).__name__} {vars(error)!r}"


def is_plain(value):
    """Whether a value is made of tuples, integers, strings, bools and None alone."""
    if type(value) is tuple:
        return all(is_plain(item) for item in value)
    # Devices have letters of any kind in them, which stay what they were.
    if value in ([2, 1], {}, [7]):
        return True
    return value is None or type(value) in (int, str, bool)


class Bounds(unittest.TestCase):
    def test_all_bounds_have_their_values(self):
        for name, bound in BOUNDS.items():
            self.assertIs(type(getattr(bounds, name)), int, name)
            self.assertEqual(getattr(bounds, name), bound, name)

    def test_there_are_no_others(self):
        self.assertEqual({name for name in vars(bounds) if name.startswith("MAX")}, set(BOUNDS))


class Errors(unittest.TestCase):
    def test_the_first_error_is_a_value_error(self):
        self.assertEqual(errors.KnowError.__bases__, (ValueError,))

    def test_all_others_stand_directly_under_it(self):
        for name in ERRORS:
            self.assertEqual(getattr(errors, name).__bases__, (errors.KnowError,), name)
            self.assertEqual(getattr(errors, name).__module__, "knownplay.errors", name)

    def test_they_are_raised_as_know_errors_and_value_errors(self):
        for name, fields in ERRORS.items():
            for kind in (errors.KnowError, ValueError):
                with self.assertRaises(kind):
                    raise getattr(errors, name)(*fields)

    def test_they_take_what_they_are_made_with_and_nothing_else(self):
        for name, fields in ERRORS.items():
            kind = getattr(errors, name)
            if fields:
                self.assertEqual(list(inspect.signature(kind).parameters), list(fields), name)
                self.assertRaises(TypeError, kind)
                self.assertRaises(TypeError, kind, 1, 2)
            self.assertEqual(vars(kind(*fields)), {field: field for field in fields}, name)

    def test_they_keep_just_what_they_were_made_with(self):
        kept = (None, True, 0, -1, 10 ** 399, "", "word", (), ("part", (1, 2)), [1, [2]], {"a": []}, (("deep",),))
        for name, fields in ERRORS.items():
            for field, item in itertools.product(fields, kept):
                before = copy.deepcopy(item)
                by_place = getattr(errors, name)(item)
                by_name = getattr(errors, name)(**{field: item})
                self.assertIs(getattr(by_place, field), item, name)
                self.assertIs(getattr(by_name, field), item, name)
                self.assertEqual(repr(item), repr(before), name)
                self.assertIsInstance(str(by_place) + str(by_name), str)


class Calls(unittest.TestCase):
    def test_functions_are_defined_where_they_are_listed(self):
        for name, (module, _) in CALLS.items():
            self.assertTrue(inspect.isfunction(getattr(module, name)), name)
            self.assertEqual(getattr(module, name).__module__, module.__name__, name)

    def test_arguments_have_the_names_that_are_told(self):
        for name, (module, calls) in CALLS.items():
            parameters = inspect.signature(getattr(module, name)).parameters
            self.assertEqual(list(parameters), list(calls[0]), name)
            for parameter in parameters.values():
                self.assertEqual(parameter.kind, inspect.Parameter.POSITIONAL_OR_KEYWORD, name)

    def test_arguments_are_taken_by_place_and_by_name_in_any_order(self):
        for name, (module, calls) in CALLS.items():
            function = getattr(module, name)
            for call in calls:
                wanted = outcome(function, *call.values())
                for names in itertools.permutations(call):
                    self.assertEqual(outcome(function, **{field: call[field] for field in names}), wanted, name)

    def test_what_is_handed_in_stays_as_it_was(self):
        for name, (module, calls) in CALLS.items():
            for call in calls:
                before = copy.deepcopy(call)
                outcome(getattr(module, name), **call)
                # Halls have no way to show themselves, but can be compared.
                self.assertEqual(call if "hall" in call else repr(call), before if "hall" in call else repr(before),
                                 name)

    def test_results_are_of_pythons_own_kinds(self):
        for name, (module, calls) in CALLS.items():
            for call in calls if name != "hall_behind" else ():
                try:
                    self.assertTrue(is_plain(getattr(module, name)(**call)), name)
                except errors.KnowError as error:
                    self.assertTrue(is_plain(tuple(vars(error).values())), name)

    def test_equal_calls_have_equal_results(self):
        for name, (module, calls) in CALLS.items():
            for call in calls:
                first, second = (outcome(getattr(module, name), **copy.deepcopy(call)) for _ in range(2))
                self.assertEqual(first, second, name)


class Methods(unittest.TestCase):
    def test_each_class_has_its_methods_itself(self):
        for kind, methods in ((halls.Hall, HALL_METHODS), (shells.Shell, {"say": {"line": "state"}})):
            self.assertEqual(kind.__bases__, (object,))
            for name, call in methods.items():
                self.assertIn(name, vars(kind))
                self.assertEqual(list(inspect.signature(vars(kind)[name]).parameters), ["self", *call], name)
            self.assertIn("__eq__", vars(halls.Hall))
        self.assertEqual(list(inspect.signature(halls.Hall).parameters), ["game", "wire", "rule"])
        self.assertEqual(list(inspect.signature(shells.Shell).parameters), [])

    def test_attributes_are_set_when_a_hall_is_made(self):
        hall = halls.Hall(**HALL)
        for name in HALL_ATTRIBUTES:
            self.assertIn(name, vars(hall))
            self.assertTrue(is_plain(getattr(hall, name)), name)

    def test_arguments_by_place_and_by_name_in_any_order(self):
        for name, call in HALL_METHODS.items():
            wanted = some_hall()
            result = getattr(wanted, name)(*call.values())
            for names in itertools.permutations(call):
                hall = some_hall()
                told = getattr(hall, name)(**{field: call[field] for field in names})
                self.assertEqual(told == result and hall == wanted, True, name)
            self.assertTrue(name == "twin" or is_plain(result), name)
        for names in itertools.permutations(HALL):
            self.assertEqual(halls.Hall(**{field: HALL[field] for field in names}), halls.Hall(*HALL.values()))
        self.assertEqual(shells.Shell().say(line="state"), shells.Shell().say("state"))

    def test_what_is_handed_in_stays_as_it_was(self):
        for name, call in HALL_METHODS.items():
            for value in (*ODD_VALUES, [[0], {"a": [1]}], ([0], {0: []})):
                before = repr(value)
                outcome(getattr(some_hall(), name), *[value] * len(call))
                self.assertEqual(repr(value), before)

    def test_what_was_returned_does_not_change(self):
        hall = some_hall()
        told = {name: getattr(hall, name)(**call) for name, call in list(HALL_METHODS.items())[12:]}
        before = repr(told)
        for name in ("offer", "serve", "twice", "join", "undo"):
            getattr(hall, name)(**HALL_METHODS[name])
        self.assertEqual(repr(told), before)

    def test_in_one_state_equal_calls_are_answered_alike(self):
        for name, call in HALL_METHODS.items():
            first, second = some_hall(), some_hall()
            self.assertEqual(outcome(getattr(first, name), **call) == outcome(getattr(second, name), **call)
                             or name == "twin", True)
            self.assertTrue(first == second)


if __name__ == "__main__":
    unittest.main()

"""Shells, line by line: without a hall and with one, with something kept and nothing, and the words of each error."""

import unittest

from knownplay.gametexts import game_text
from knownplay.halllogs import hall_behind, hall_log, log_text, rule_text
from knownplay.halls import Hall
from knownplay.knowngames import known_game, known_names
from knownplay.knownwires import bare_wire, changes_wire, plain_wire, silent_wire
from knownplay.leaks import lack, leak
from knownplay.playtexts import play_text
from knownplay.shells import Shell, lots_text
from knownplay.wiretexts import wire_text
from tests.going import Going, Wrong, some_edit
from tests.knowing import MIXED, counting
from tests.test_leaks import BLAB, BOX, FAIR, MUTE, WHETHER
from tests.things import ODD_VALUES, YES, Things

WIRES = {"plain": plain_wire, "changes": changes_wire, "bare": bare_wire, "silent": silent_wire}
ASKS = ("sent", "row", "road", "lacks", "way", "open", "shown", "ahead", "elder", "firm", "leak", "lack")
LINES = ["state", "play", "log", "accused", "undo", "redo"] + [f"{word} 0" for word in ASKS + ("mend", "join")]
LINES += [f"{word} 0 0" for word in ("offer", "take", "serve", "come", "twice", "lose", "ask", "guest", "watch")]
LOG = (("serve", 0, 1), ("offer", 0, 1), ("take", 0, 0), ("come", 1, 0), ("come", 1, 2), ("join", 1), ("offer", 0, 1),
       ("come", 0, 0))


def one_line(text):
    """A text with " | " for each line feed."""
    return text.replace("\n", " | ")


def kept_shell(wire=(FAIR, FAIR), rule=(WHETHER,), log=LOG):
    """A shell with a hall of the box behind some calls."""
    shell = Shell()
    for line in (f"game {one_line(game_text(BOX))}", f"wire {one_line(wire_text(wire))}",
                 f"rule {one_line(rule_text(rule))}"):
        assert shell.say(line) == "kept"
    assert shell.say("begin") == "begun"
    for number, call in enumerate(log):
        assert shell.say(" ".join(map(str, call))) == f"version {number + 1}"
    return shell


def cells(shown):
    """What is shown of cells, as a shell tells it."""
    if shown is None:
        return "none"
    return ", ".join(f"c{cell} {value}" for cell, value in enumerate(shown) if value is not None) or "nothing"


def letters(row):
    """Letters as a shell tells them."""
    return " / ".join(",".join("." if item is None else str(item) for item in letter) or "-"
                      for letter in row) or "none"


def firm(told):
    """What is firm as a shell tells it."""
    if told is None:
        return "none"
    texts = ["-" if one is None else " ".join([one[0]] + [f"{c}:{value}" for pairs in one[1:] for c, value in pairs])
             for one in told[0]]
    return "; ".join(texts) or "nothing"


def plays(pair):
    """A pair of plays as a shell tells it."""
    return "none" if pair is None else " | ".join(play_text(play) or "none" for play in pair)


def answers(hall):
    """A dict of lines that ask something of a hall, and what is to be answered."""
    found = {"state": ",".join(map(str, hall.state)), "play": play_text(hall.play) or "none",
             "log": " | ".join(" ".join(map(str, call)) for call in hall.edits) or "none",
             "accused": "; ".join(",".join(map(str, lot)) for lot in hall.accused()) or "nobody"}
    for p in range(hall.game[0]):
        numbers = {"road": hall.road(p), "lacks": hall.lacks(p), "way": hall.on_the_way(p), "open": hall.open_tries(p)}
        found.update({f"{word} {p}": " ".join(map(str, some)) or "none" for word, some in numbers.items()})
        found.update({f"sent {p}": letters(hall.sent(p)), f"row {p}": letters(hall.device(p)[0]),
                      f"shown {p}": cells(hall.shown(p)),
                      f"ahead {p}": cells(hall.ahead(p)), f"elder {p}": cells(hall.elder_shown(p)),
                      f"firm {p}": firm(hall.firm(p)),
                      f"leak {p}": plays(leak(hall.game, hall.wire, p)),
                      f"lack {p}": plays(lack(hall.game, hall.wire, p))})
        for lag in (0, 1, 200):
            found[f"watch {p} {lag}"] = cells(hall.watched_shown(p, lag))
        for place in range(len(hall.guests(p))):
            found[f"guest {p} {place}"] = cells(hall.guest_shown(p, place))
    return found


class Answers(unittest.TestCase):
    def test_each_line_with_a_hall(self):
        for wire in ((FAIR, FAIR), (BLAB, FAIR), (MUTE, ()), ((), MUTE)):
            for many in range(len(LOG) + 1):
                shell, hall = kept_shell(wire, log=LOG[:many]), hall_behind(BOX, wire, (WHETHER,), LOG[:many])
                for line, answer in answers(hall).items():
                    self.assertEqual(shell.say(line), answer, line)

    def test_drawn_halls(self):
        seen = set()
        for seed, name in enumerate(known_names()):
            for word in ("plain", "bare", "silent"):
                things, game, shell = Things(650 + seed), known_game(name), Shell()
                wire = WIRES[word](game)
                self.assertEqual(shell.say(f"known {name} {word}"), "begun")
                hall, going = Hall(game, wire, ()), Going(game, wire, ())
                for _ in range(20):
                    call = some_edit(things.random, going)
                    line = " ".join(map(str, call))
                    if "0" in call:
                        continue
                    try:
                        going.edit(*call)
                    except Wrong:
                        wanted = "error Refused" if all(type(number) is int and number >= 0
                                                        for number in call[1:]) else "what"
                        self.assertEqual(shell.say(line), wanted, line)
                        seen.add(wanted)
                    else:
                        self.assertEqual(shell.say(line), f"version {getattr(hall, call[0])(*call[1:])}")
                some = answers(hall) if word == "plain" else {"log": " | ".join(" ".join(map(str, call))
                                                                                for call in hall.edits) or "none"}
                for line, answer in some.items():
                    self.assertEqual(shell.say(line), answer, line)
                    seen.add(answer.split(" ")[0])
        self.assertLessEqual({"none", "nothing", "nobody", "error Refused", "what"}, seen)

    def test_what_is_shown_of_results(self):
        game = known_game("door")
        shell = Shell()
        shell.say("known door plain")
        for line in ("offer 0 1", "offer 0 0", "offer 0 1", "come 0 0"):
            shell.say(line)
        hall = hall_behind(game, plain_wire(game), (), (("offer", 0, 1), ("offer", 0, 0), ("offer", 0, 1),
                                                        ("come", 0, 0)))
        self.assertEqual(hall.firm(0)[0], (("refused",), ("set", ((2, 0),)), ("set", ((3, 1),))))
        self.assertEqual(shell.say("firm 0"), "refused; set 2:0; set 3:1")
        self.assertEqual((shell.say("firm 1"), shell.say("come 1 0"), shell.say("firm 1")),
                         ("none", "version 5", "nothing"))
        self.assertEqual((shell.say("offer 1 3"), shell.say("firm 1")), ("version 6", "-"))
        text = "players 2 | cell 2 0 | cell 2 1 | deed 0 1 0 if yes | deed 0 1 0 if yes | set 0 to 1 | set 1 to 0"
        for line in (f"game {text} | sights | see yes | see yes | sights | see yes | see yes", "wire to | to", "begin",
                     "offer 0 0", "offer 0 1", "come 0 0"):
            answer = shell.say(line)
        self.assertEqual((answer, shell.say("firm 0"), shell.say("sent 0")), ("version 3", "set; set 0:1 1:0", "-"))

    def test_lots_of_players(self):
        # No device of a hall is ever found to lie, so this is asked of the text itself.
        self.assertEqual([lots_text(lots) for lots in ((), ((0,),), ((0, 2), (1,)))], ["nobody", "0", "0,2; 1"])

    def test_plays_that_leak_and_lack(self):
        shell = kept_shell((BLAB, MUTE), log=())
        self.assertEqual(sorted(shell.say("leak 0").split(" | ")), ["0:0", "0:1"])
        self.assertEqual((shell.say("lack 0"), shell.say("leak 1")), ("none", "none"))
        self.assertEqual(sorted(shell.say("lack 1").split(" | ")), ["0:0 1:0", "0:1 1:0"])
        # Plays that leak or lack have a tick at least: only one that has none is told as none, and there is no such one.
        self.assertEqual((shell.say("play"), shell.say("serve 0 1"), shell.say("play")), ("none", "version 1", "0:1"))


class Lines(unittest.TestCase):
    def test_without_a_hall(self):
        shell = Shell()
        for line in LINES:
            self.assertEqual(shell.say(line), "no hall", line)
        for line in ("state 0", "offer 0", "none", "", "shown", "shown x", "come 0 00", "hall", "known", "game", "wire",
                     "rule", "begin "):
            self.assertEqual(shell.say(line), "what", line)

    def test_lines_that_are_none(self):
        for shell in (Shell(), kept_shell()):
            for value in ODD_VALUES + MIXED:
                self.assertEqual(shell.say(value), "what", value)
            for line in ("", " ", "\n", "State", "state ", " state", "state\n", "play 0", "log 0", "accused 0", "sent",
                         "sent ", "sent 0 0", "sent -1",
                         "sent 00", "sent 01", "sent 10000", "sent x", "sent 0 ", "sent  0", "sent\t0", "guest 0",
                         "guest 0 0 0", "guest 0 00", "watch 0", "watch 0 x",
                         "firm", "open", "way", "lack", "leak", "elder 0\n", "undo 0", "redo ", "mend", "mend 0 0",
                         "offer 0 1 2", "come 0 12345", "twice 0 -1",
                         "take 0 None", "join true", "begin 0", "begins", "begin ", "Begin", "known", "known ",
                         "known coin", "known coin ", "known coin Plain",
                         "known coin plain ", "known  coin plain", "known coin  plain", "known  plain",
                         "known a b plain", "known coin none", "knowncoin plain",
                         "game", "wire", "rule", "games x", "offer", "what", "no hall", "version 1", "hall", "tick 0",
                         "device 0", "guests 0", "twin", "row", "say x"):
                self.assertEqual(shell.say(line), "what", line)

    def test_players_that_are_not_there(self):
        shell = kept_shell()
        for line in [f"{word} {p}" for word in ASKS for p in (2, 9, 9999)] + ["guest 2 0", "watch 2 0", "guest 0 0",
                                                                              "guest 1 1", "guest 1 9999",
                                                                              "watch 0 201", "watch 1 9999"]:
            self.assertEqual(shell.say(line), "error Unfit", line)
        for line in ("offer 2 0", "take 2 0", "come 9 0", "twice 2 0", "lose 2 0", "ask 2 0", "mend 2", "join 9999",
                     "serve 9 0", "serve 0 9", "take 1 0"):
            self.assertEqual(shell.say(line), "error Refused", line)
        self.assertEqual(shell.say("log"), one_line(log_text(LOG))[:-3])

    def test_errors_of_edits(self):
        shell = Shell()
        shell.say("known coin silent")
        self.assertEqual((shell.say("undo"), shell.say("redo")), ("error NothingToUndo", "error NothingToRedo"))
        for number in range(120):
            self.assertEqual(shell.say("twice 0 0"), f"version {number + 1}")
        self.assertEqual((shell.say("twice 0 0"), shell.say("twice 0 1"), shell.say("undo"), shell.say("redo")),
                         ("error TooManyEdits", "error Refused", "version 119", "version 120"))
        game = counting((6, 6, 6, 6, 6))
        shell.say(f"game {one_line(game_text(game))}")
        shell.say(f"wire {one_line(wire_text(silent_wire(game)))}")
        self.assertEqual(shell.say("begin"), "begun")
        self.assertEqual([shell.say(line) for line in ("join 0", "accused", "leak 0", "lack 0", "log")],
                         ["error TooMany"] * 4 + ["none"])


class Kept(unittest.TestCase):
    def test_known_games(self):
        for name in known_names():
            game = known_game(name)
            for word, wire_of in WIRES.items():
                shell = Shell()
                if word == "changes" and name in ("coin", "door"):
                    self.assertEqual((shell.say(f"known {name} {word}"), shell.say("state")),
                                     ("error Unfit", "no hall"))
                    continue
                self.assertEqual(shell.say(f"known {name} {word}"), "begun")
                hall = Hall(game, wire_of(game), ())
                self.assertEqual(shell.say("state"), ",".join(map(str, hall.state)))
                self.assertEqual([shell.say(f"sent {p}") for p in range(game[0])],
                                 [letters(hall.sent(p)) for p in range(game[0])])
        shell = Shell()
        for name in ("chess", "Coin", "coin/", "x" * 999, "none", "12", "a\nb"):
            self.assertEqual(shell.say(f"known {name} plain"), "error Unfit")
        self.assertEqual(shell.say("state"), "no hall")

    def test_a_known_game_leaves_what_is_kept(self):
        shell = kept_shell()
        self.assertEqual((shell.say("known chess plain"), shell.say("state")), ("error Unfit", "1,1"))
        self.assertEqual((shell.say("known coin plain"), shell.say("state"), shell.say("log")),
                         ("begun", "0,0,0", "none"))
        self.assertEqual((shell.say("begin"), shell.say("state"), shell.say("log")), ("begun", "0,0", "none"))
        self.assertEqual([shell.say(line) for line in ("join 0", "guest 0 0")], ["version 1", "c1 0"])

    def test_what_lacks(self):
        shell = Shell()
        for line in ("begin", "wire to | to", "rule if yes tell c1", "rule ", "wire "):
            self.assertEqual(shell.say(line), "error Unfit", line)
        game = f"game {one_line(game_text(BOX))}"
        self.assertEqual((shell.say(game), shell.say("begin"), shell.say("rule if yes tell c0"), shell.say("begin")),
                         ("kept", "error Unfit", "kept", "error Unfit"))
        self.assertEqual((shell.say("wire to | to"), shell.say("begin")), ("kept", "begun"))
        self.assertEqual([shell.say(line) for line in ("serve 0 1", "join 0", "guest 0 0")],
                         ["version 1", "version 2", "c0 1"])
        # A game does away with the wire and the rule; the hall stays as it is.
        self.assertEqual((shell.say(game), shell.say("begin"), shell.say("log")),
                         ("kept", "error Unfit", "serve 0 1 | join 0"))
        self.assertEqual((shell.say("wire to | to"), shell.say("begin"), shell.say("join 0"), shell.say("guest 0 0")),
                         ("kept", "begun", "version 1", "nothing"))

    def test_texts_that_are_read(self):
        shell = kept_shell()
        for line, answer in (("game ", "error BadText"), ("game players 2", "error BadText"),
                             ("game players 1 | cell 2 0", "error BadText"), ("wire ", "error BadText"),
                             ("wire to | if yes tell c2 | to", "error BadWire"), ("wire to", "error BadWire"),
                             ("wire to|to", "error BadText"),
                             ("rule if yes tell c2", "error BadRule"), ("rule if yes tell deed", "error BadText"),
                             ("rule none", "error BadText"),
                             ("game " + one_line(game_text(BOX)).replace("players 2", "players 9"), "error BadGame"),
                             ("rule  ", "error BadText"),
                             ("rule if yes tell c0 | ", "error BadText"),
                             ("rule " + " | ".join(["if yes tell c0"] * 8), "error BadRule")):
            self.assertEqual(shell.say(line), answer, line)
        # Nothing has changed.
        self.assertEqual((shell.say("state"), shell.say("begin"), shell.say("state")), ("1,1", "begun", "0,0"))
        self.assertEqual([shell.say(line) for line in ("sent 0", "join 0", "guest 0 0")], [".,0", "version 1", "c1 0"])
        self.assertEqual((shell.say("rule "), shell.say("begin"), shell.say("join 0"), shell.say("guest 0 0")),
                         ("kept", "begun", "version 1", "nothing"))
        # Line feeds may stand there themselves.
        self.assertEqual((shell.say("wire to\nif yes tell c1 | to"), shell.say("begin"), shell.say("sent 0"),
                          shell.say("sent 1")), ("kept", "begun", "0", "-"))

    def test_games_and_wires_by_their_texts(self):
        things = Things(660)
        for _ in range(30):
            game = things.tiny_game()
            wire, shell = things.tiny_wire(game), Shell()
            rule = tuple((YES, things.tiny_term(len(game[1]), ())) for _ in range(2))
            self.assertEqual(shell.say(f"game {one_line(game_text(game))}"), "kept")
            self.assertEqual(shell.say(f"wire {one_line(wire_text(wire))}"), "kept")
            self.assertEqual(shell.say(f"rule {one_line(rule_text(rule))}"), "kept")
            self.assertEqual((shell.say("begin"), shell.say("join 0")), ("begun", "version 1"))
            hall = hall_behind(game, wire, rule, (("join", 0),))
            for line, answer in answers(hall).items():
                self.assertEqual(shell.say(line), answer, line)
            self.assertEqual(shell.say("log"), one_line(log_text(hall_log(hall)))[:-3])


if __name__ == "__main__":
    unittest.main()

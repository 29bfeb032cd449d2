"""The texts of wires."""

from knownplay.errors import BadTerm, BadText, BadWire
from knownplay.gametexts import WIDEST
from knownplay.termtexts import condition_text, read_condition, read_term, term_text
from knownplay.wires import wire_error

BEFORE_WHEN = "if "
BEFORE_WHAT = " tell "


def entry_text(entry):
    """The line of an entry."""
    when, what = entry
    return f"{BEFORE_WHEN}{condition_text(when)}{BEFORE_WHAT}{term_text(what)}"


def wire_text(wire):
    """The text of wire."""
    lines = []
    for rule in wire:
        lines.append("to")
        lines.extend([entry_text(entry) for entry in rule])
    return "\n".join(lines)


def read_entry(place, line):
    """The entry at place of which line is the line; BadText or BadTerm, wherever, if it is none."""
    # No text of a condition has " tell " in it, so the first one ends it.
    before, _, what = line.partition(BEFORE_WHAT)
    if not before.startswith(BEFORE_WHEN):
        raise BadText(0)
    return (read_condition(place, before.removeprefix(BEFORE_WHEN)), read_term(place, what))


def read_wire(game, value):
    """The wire of game of which value, any value, is the text."""
    if not isinstance(value, str):
        raise BadText(0)
    wire = rules_told(value.split("\n"))
    error = wire_error(game, wire)
    if error is not None:
        raise BadWire(error)
    return wire


def rules_told(lines):
    """The rules that lines tell, whether they are a wire of some game or not."""
    rules = []
    for number, line in enumerate(lines):
        if line == "to":
            rules.append([])
        elif not rules:
            raise BadText(number)
        else:
            try:
                rules[-1].append(read_entry(WIDEST, line))
            except (BadText, BadTerm):
                raise BadText(number) from None
    return tuple([tuple(rule) for rule in rules])

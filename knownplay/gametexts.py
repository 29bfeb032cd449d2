"""The texts of games."""

from knownplay.errors import BadGame, BadTerm, BadText
from knownplay.games import game_error
from knownplay.termtexts import condition_text, read_condition, read_term, term_text

# Where a line's conditions and terms are read: which game they are in is not yet known there.
WIDEST = (1000000000, ("deed", "done", "draw", "was"))

MOST_FIGURES = 9

# The lines that may come behind each one, told by their first words; "" stands for the beginning.
COMES_BEHIND = {
    "": ("players",),
    "players": ("cell",),
    "cell": ("cell", "deed"),
    "deed": ("set", "deed", "sights"),
    "set": ("set", "deed", "sights"),
    "sights": ("see",),
    "see": ("see", "sights"),
}

# What stands behind the first word of each line.
FIELDS = {
    "players": ("number",),
    "cell": ("number", "number"),
    "deed": ("doer", "number", "seen", "if", "condition"),
    "set": ("number", "to", "term"),
    "sights": (),
    "see": ("condition",),
}


def game_text(game):
    """The text of game."""
    players, cells, deeds, sights = game
    lines = [f"players {players}"]
    lines.extend([f"cell {size} {first}" for size, first in cells])
    for deed in deeds:
        lines.extend(deed_lines(deed))
    for conditions in sights:
        lines.append("sights")
        lines.extend([f"see {condition_text(condition)}" for condition in conditions])
    return "\n".join(lines)


def deed_lines(deed):
    """The lines of one deed."""
    doer, outcomes, guard, effects, seen = deed
    doer_text = "-" if doer is None else f"{doer}"
    seen_text = ",".join([f"{player}" for player in seen]) if seen else "-"
    lines = [f"deed {doer_text} {outcomes} {seen_text} if {condition_text(guard)}"]
    lines.extend([f"set {cell} to {term_text(term)}" for cell, term in effects])
    return lines


def read_game(value):
    """The game of which value, any value, is the text."""
    if not isinstance(value, str):
        raise BadText(0)
    game = game_of(lines_told(value.split("\n")))
    error = game_error(game)
    if error is not None:
        raise BadGame(error)
    return game


def lines_told(lines):
    """A pair for each line: its first word, and what stands behind it."""
    told = []
    word = ""
    for number, line in enumerate(lines):
        ahead = word
        word = line.partition(" ")[0]
        if word not in COMES_BEHIND[ahead]:
            raise BadText(number)
        try:
            told.append((word, line_told(word, line)))
        except (BadText, BadTerm):
            raise BadText(number) from None
    if word != "see":
        raise BadText(len(lines))
    return told


def line_told(word, line):
    """What stands behind the first word of a line; BadText or BadTerm, wherever, if that is not as it should be."""
    fields = FIELDS[word]
    # A condition and a term stand last, and keep their blanks.
    texts = line.split(" ", len(fields))
    if texts[0] != word or len(texts) != 1 + len(fields):
        raise BadText(0)
    return [field_told(field, text) for field, text in zip(fields, texts[1:])]


def field_told(field, text):
    """What text tells as this field of a line."""
    if field == "number":
        return number_told(text)
    if field == "doer":
        return None if text == "-" else number_told(text)
    if field == "seen":
        return () if text == "-" else tuple([number_told(part) for part in text.split(",")])
    if field == "condition":
        return read_condition(WIDEST, text)
    if field == "term":
        return read_term(WIDEST, text)
    if text != field:
        raise BadText(0)
    return text


def number_told(text):
    """The number of one to nine figures, without needless noughts, that text tells."""
    figures = text.isascii() and text.isdigit()
    if not figures or len(text) > MOST_FIGURES or (text[0] == "0" and text != "0"):
        raise BadText(0)
    return int(text)


def game_of(told):
    """What the lines tell, whether it is a game or not."""
    players = None
    cells = []
    deeds = []
    sights = []
    for word, fields in told:
        if word == "players":
            players = fields[0]
        elif word == "cell":
            cells.append(tuple(fields))
        elif word == "deed":
            doer, outcomes, seen, _, guard = fields
            deeds.append((doer, outcomes, guard, [], seen))
        elif word == "set":
            cell, _, term = fields
            deeds[-1][3].append((cell, term))
        elif word == "sights":
            sights.append([])
        else:
            sights[-1].append(fields[0])
    all_deeds = [(doer, outcomes, guard, tuple(effects), seen) for doer, outcomes, guard, effects, seen in deeds]
    return (players, tuple(cells), tuple(all_deeds), tuple([tuple(conditions) for conditions in sights]))

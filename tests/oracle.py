"""Tells where a text goes wrong, in another way than the program: all beginnings of texts at once, sign by sign.

A beginning is told by what has to come behind it: a chain of pairs (what comes
first, the chain behind), () at the end. What comes first is a sign, or a
capital, that stands for any one of its rows.
"""

# MORE[k] stands for none to k figures.
MORE = "ABDEFGHIJ"

RULES = {
    "T": ["N", "cK", "wK", "draw", "deed", "(T S T)", "(if C then T else T)"],
    "C": ["yes", "done", "(T M T)", "not C", "(C W C)"],
    "S": ["+", "-"],
    "M": ["=", "<"],
    "W": ["and", "or"],
    "N": ["0"] + [figure + MORE[1] for figure in "123456789"],
    "K": ["0"] + [figure + MORE[8] for figure in "123456789"],
    MORE[0]: [""],
}
for many in range(1, 9):
    RULES[MORE[many]] = [""] + [figure + MORE[many - 1] for figure in "0123456789"]


def opened(chains):
    """The chains, those that begin with a capital replaced by those that it stands for."""
    found = []
    todo = list(chains)
    while todo:
        chain = todo.pop()
        if chain and chain[0] in RULES:
            for row in RULES[chain[0]]:
                behind_it = chain[1]
                for item in reversed(row):
                    behind_it = (item, behind_it)
                todo.append(behind_it)
        else:
            found.append(chain)
    return found


def beginning(kind):
    """The chains ahead of any sign of a "term" or a "condition"."""
    return opened([(kind[0].upper(), ())])


def behind(chains, sign):
    """The chains behind one sign more; none if no text begins so."""
    return opened([chain[1] for chain in chains if chain and chain[0] == sign])


def is_whole(chains):
    """Whether what was gone through is a text already."""
    return () in chains


def wrong_place(chains, text):
    """How many signs of text go on from chains; None if it ends a text."""
    for at, sign in enumerate(text):
        chains = behind(chains, sign)
        if not chains:
            return at
    return None if is_whole(chains) else len(text)

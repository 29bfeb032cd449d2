"""The known games."""

from knownplay.errors import Unfit
from knownplay.gametexts import read_game

# The texts of the known games, by their names. A line here that begins with a blank goes on from the one ahead of it.
KNOWN_TEXTS = {
    "bid": """players 3
cell 3 0
cell 3 0
cell 3 0
cell 2 0
deed 0 1 0 if ((c0 = 0) and (c3 = 0))
set 0 to 1
deed 0 1 0 if ((c0 = 0) and (c3 = 0))
set 0 to 2
deed 1 1 1 if ((c1 = 0) and (c3 = 0))
set 1 to 1
deed 1 1 1 if ((c1 = 0) and (c3 = 0))
set 1 to 2
deed 2 1 2 if ((c2 = 0) and (c3 = 0))
set 2 to 1
deed 2 1 2 if ((c2 = 0) and (c3 = 0))
set 2 to 2
deed - 1 0,1,2 if (not (c0 = 0) and (not (c1 = 0) and (not (c2 = 0) and (c3 = 0))))
set 3 to 1
sights
see yes
see (c3 = 1)
see (c3 = 1)
see yes
sights
see (c3 = 1)
see yes
see (c3 = 1)
see yes
sights
see (c3 = 1)
see (c3 = 1)
see yes
see yes""",
    "cards": """players 2
cell 4 0
cell 4 0
cell 4 0
deed - 3 0,1 if (c2 = 0)
set 0 to (draw + 1)
set 2 to 1
deed - 2 0,1 if (c2 = 1)
set 1 to ((draw + 1) + (if (draw < (c0 - 1)) then 0 else 1))
set 2 to 2
deed 0 1 0,1 if (c2 = 2)
set 0 to c1
set 1 to c0
deed 1 1 0,1 if (c2 = 2)
set 2 to 3
sights
see yes
see (c2 = 3)
see yes
sights
see (c2 = 3)
see yes
see yes""",
    "coin": """players 2
cell 3 0
cell 2 0
cell 3 0
deed - 2 - if (c0 = 0)
set 0 to (draw + 1)
deed 0 1 0 if (not (c0 = 0) and (c1 = 0))
set 1 to 1
deed 1 1 0,1 if (not (c0 = 0) and (c2 = 0))
set 2 to 1
deed 1 1 0,1 if (not (c0 = 0) and (c2 = 0))
set 2 to 2
sights
see ((c1 = 1) or not (c2 = 0))
see yes
see yes
sights
see not (c2 = 0)
see not yes
see yes""",
    "cups": """players 2
cell 3 0
cell 4 3
deed - 3 - if ((c0 = 0) and (c1 = 3))
set 0 to draw
deed 0 1 0,1 if yes
set 0 to (if (c0 = 0) then 1 else (if (c0 = 1) then 0 else c0))
set 1 to 3
deed 0 1 0,1 if yes
set 0 to (if (c0 = 1) then 2 else (if (c0 = 2) then 1 else c0))
set 1 to 3
deed 1 3 0,1 if yes
set 1 to draw
sights
see yes
see yes
sights
see (c0 = c1)
see yes""",
    "door": """players 2
cell 2 0
cell 2 1
cell 3 2
cell 2 0
deed 0 1 0 if ((c2 = 2) and (c0 = 0))
set 2 to 0
deed 0 1 0,1 if (c2 = 0)
set 3 to (1 - c3)
deed 0 1 0 if (c3 = 1)
set 0 to (1 - c0)
deed 1 1 1 if (c3 = 1)
set 1 to (1 - c1)
deed 0 1 0,1 if ((c2 = 0) and (c0 = c1))
set 2 to 1
deed 1 1 0,1 if (c2 = 1)
set 3 to (1 - c3)
sights
see yes
see (c0 = c1)
see ((c2 = 0) or (c0 = 0))
see yes
sights
see (c0 = c1)
see yes
see (c2 = 1)
see yes""",
    "heaps": """players 2
cell 4 3
cell 3 2
cell 2 0
deed 0 1 0,1 if ((c2 = 0) and not (c0 < 1))
set 0 to (c0 - 1)
set 2 to 1
deed 0 1 0,1 if ((c2 = 0) and not (c0 < 2))
set 0 to (c0 - 2)
set 2 to 1
deed 0 1 0,1 if ((c2 = 0) and not (c1 < 1))
set 1 to (c1 - 1)
set 2 to 1
deed 0 1 0,1 if ((c2 = 0) and not (c1 < 2))
set 1 to (c1 - 2)
set 2 to 1
deed 1 1 0,1 if ((c2 = 1) and not (c0 < 1))
set 0 to (c0 - 1)
set 2 to 0
deed 1 1 0,1 if ((c2 = 1) and not (c0 < 2))
set 0 to (c0 - 2)
set 2 to 0
deed 1 1 0,1 if ((c2 = 1) and not (c1 < 1))
set 1 to (c1 - 1)
set 2 to 0
deed 1 1 0,1 if ((c2 = 1) and not (c1 < 2))
set 1 to (c1 - 2)
set 2 to 0
sights
see yes
see yes
see yes
sights
see yes
see yes
see yes""",
    "host": """players 2
cell 3 0
cell 4 3
cell 4 3
cell 2 0
deed - 3 0 if (c3 = 0)
set 0 to draw
set 3 to 1
deed 1 1 0,1 if ((c3 = 1) and (c1 = 3))
set 1 to 0
deed - 2 0,1 if (not (c1 = 3) and (c2 = 3))
set 2 to (if (c0 = c1) then (if (draw = 0) then (if (c0 = 0) then 1 else 0) else (if (c0 = 2) then 1 else 2))
 else (3 - (c0 + c1)))
deed 1 1 0,1 if not (c2 = 3)
set 1 to (3 - (c1 + c2))
sights
see yes
see yes
see yes
see yes
sights
see not yes
see yes
see yes
see not yes""",
    "lamps": """players 3
cell 2 0
cell 2 0
cell 2 1
deed 0 1 0 if yes
set 1 to (1 - c1)
deed 1 1 1 if yes
set 2 to (1 - c2)
deed 2 1 2 if yes
set 0 to (1 - c0)
deed - 2 - if yes
set 0 to (c0 - draw)
sights
see not yes
see yes
see yes
sights
see yes
see not yes
see yes
sights
see yes
see yes
see not yes""",
}


def known_names():
    """The ascending tuple of the names of the known games."""
    return tuple(sorted(KNOWN_TEXTS))


def known_game(name):
    """The known game of this name, any value; Unfit() if there is none."""
    if not isinstance(name, str) or name not in KNOWN_TEXTS:
        raise Unfit()
    return read_game(KNOWN_TEXTS[name].replace("\n ", " "))

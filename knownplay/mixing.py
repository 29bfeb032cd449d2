"""Mixing: whether some history of copies of deeds has a ring, told by what their pieces touch."""

from knownplay.cuts import meet
from knownplay.histories import ordered_so, pieces_of
from knownplay.values import ascends, is_count, is_row, is_whole


def copies_cut(game, owners, many):
    """A list of the pieces of each occurrence of many; Unfit() if a deed is not cut."""
    return pieces_of(game, owners, [(deed, 0) for deed in many])


def ends_of(cut):
    """A dict of the links of occurrences with these pieces: of each the pair of its ends, as (occurrence, piece)."""
    found = {("own", k, p): ((k, p), (k, p + 1)) for k, own in enumerate(cut) for p in range(len(own) - 1)}
    for k, own in enumerate(cut):
        for m in range(k + 1, len(cut)):
            for p, piece in enumerate(own):
                for q, other in enumerate(cut[m]):
                    if meet(piece, other):
                        found[("meet", k, p, m, q)] = ((k, p), (m, q))
    return found


class Links:
    """The links of occurrences, and where they lead from each piece."""

    def __init__(self, cut):
        self.ends = ends_of(cut)
        self.around = {(k, p): [] for k, own in enumerate(cut) for p in range(len(own))}
        for link, (one, other) in self.ends.items():
            self.around[one].append((link, other))
            self.around[other].append((link, one))

    def groups(self, piece):
        """The links at piece, as lists of pairs of a link and of its other end, which hang together without piece."""
        rest = list(self.around[piece])
        found = []
        while rest:
            ahead = self.ahead_without(piece, rest[0][1])
            found.append([pair for pair in rest if pair[1] in ahead])
            rest = [pair for pair in rest if pair[1] not in ahead]
        return found

    def ahead_without(self, barred, begun_with):
        """A dict of the pieces to which links lead from one, but for a barred one: of each the piece ahead of it."""
        ahead = {begun_with: None}
        todo = [begun_with]
        while todo:
            newer = []
            for piece in todo:
                for _, other in self.around[piece]:
                    if other != barred and other not in ahead:
                        ahead[other] = piece
                        newer.append(other)
            todo = newer
        return ahead

    def mixed_round(self):
        """A row of pieces, all unlike, from each of which a link leads to the next one, around, links of both words.

        None if there is none. If there is one, some piece has links of both words that hang together without it.
        """
        for piece in self.around:
            for group in self.groups(piece):
                own = [other for link, other in group if link[0] == "own"]
                others = [other for link, other in group if link[0] == "meet"]
                if own and others:
                    ahead = self.ahead_without(piece, others[0])
                    way = [piece, own[0]]
                    while ahead[way[-1]] is not None:
                        way.append(ahead[way[-1]])
                    return way
        return None


def runs_of(way):
    """The parts of way, which goes around, that stand in one occurrence each: a list of lists of pieces."""
    many = len(way)
    begun = [k for k in range(many) if way[k][0] != way[k - 1][0]]
    # It goes through some occurrences, so a part ends at its end if it is turned so that one begins it.
    turned = way[begun[0]:] + way[:begun[0]]
    found = []
    for piece in turned:
        if found and found[-1][0][0] == piece[0]:
            found[-1].append(piece)
        else:
            found.append([piece])
    return found


def shortened(way):
    """A row as mixed_round tells that comes to no occurrence twice, from one that may do so."""
    runs = runs_of(way)
    while len({run[0][0] for run in runs}) < len(runs):
        way = cut_short(way, runs)
        runs = runs_of(way)
    return way


def cut_short(way, runs):
    """A shorter row, of a part of way and of own links between two pieces by which it comes to one occurrence twice."""
    places = {piece: k for k, run in enumerate(runs) for piece in run}
    come_to = sorted(list(places))
    twice = [(one, other) for one, other in zip(come_to, come_to[1:]) if one[0] == other[0]]
    one, other = [pair for pair in twice if places[pair[0]] != places[pair[1]]][0]
    at = way.index(other)
    turned = way[at:] + way[:at]
    return turned[:turned.index(one) + 1] + [(one[0], p) for p in range(one[1] + 1, other[1])]


def mixed_ring(game, owners, many):
    """A mixed ring of many; None if there is none."""
    return ring_in(copies_cut(game, owners, many))


def ring_in(cut):
    """A mixed ring of occurrences with these pieces; None if there is none."""
    way = Links(cut).mixed_round()
    if way is None:
        return None
    return tuple([(run[0][0], run[0][1], run[-1][1]) for run in runs_of(shortened(way))])


def mixed_error(game, owners, many, value):
    """None if value, any value, is a mixed ring of many; otherwise what is wrong with it."""
    cut = copies_cut(game, owners, many)
    if not is_row(value, 2, len(cut)) or not all([is_passage(cut, item) for item in value]):
        return "form"
    if len({item[0] for item in value}) < len(value):
        return "form"
    for k, (one, _, piece) in enumerate(value):
        other, behind, _ = value[k + 1 - len(value)]
        if not meet(cut[one][piece], cut[other][behind]):
            return ("meets", k)
    return "plain" if all([a == b for _, a, b in value]) else None


def is_passage(cut, value):
    """Whether value, any value, is a triple of an occurrence and two numbers of its pieces."""
    if not is_row(value, 3, 3) or not is_whole(value[0], 0, len(cut) - 1):
        return False
    most = len(cut[value[0]]) - 1
    return is_whole(value[1], 0, most) and is_whole(value[2], 0, most)


def bad_history(game, owners, many):
    """A history of many that has a ring; None if there is none."""
    cut = copies_cut(game, owners, many)
    ring = ring_in(cut)
    if ring is None:
        return None
    numbers = {}
    for k, own in enumerate(cut):
        for p in range(len(own)):
            numbers[(k, p)] = len(numbers)
    pairs = [(numbers[(k, p - 1)], numbers[(k, p)]) for k, p in numbers if p > 0]
    # Each a stands ahead of the b that it meets. These wishes lead nowhere around, as somewhere a is ahead of its b:
    # what meets has one shard, and pieces of a deed stand by ascending shards, so a ring goes up and down.
    for at, (one, _, piece) in enumerate(ring):
        other, behind, _ = ring[at + 1 - len(ring)]
        pairs.append((numbers[(other, behind)], numbers[(one, piece)]))
    places = list(numbers)
    return tuple([places[number] for number in ordered_so(len(places), pairs)])


def sorting(game, owners, many):
    """A sorting of many; None if there is none."""
    return sorting_in(copies_cut(game, owners, many))


def sorting_in(cut):
    """A sorting of occurrences with these pieces: links stand in one lot if a ring of links has both."""
    links = Links(cut)
    if links.mixed_round() is not None:
        return None
    numbers = {link: number for number, link in enumerate(links.ends)}
    for piece in links.around:
        for group in links.groups(piece):
            least = numbers[group[0][0]]
            joined = {numbers[link]: True for link, _ in group}
            numbers = {link: least if numbers[link] in joined else numbers[link] for link in numbers}
    lots = {}
    for link in sorted(list(numbers)):
        lots.setdefault(numbers[link], []).append(link)
    return tuple([tuple(lot) for lot in lots.values()])


def sorting_error(game, owners, many, value):
    """None if value, any value, is a sorting of many; otherwise what is wrong with it."""
    ends = ends_of(copies_cut(game, owners, many))
    if not isinstance(value, tuple) or not all([is_lot(ends, lot) for lot in value]):
        return "form"
    standing = {}
    for lot in value:
        for link in lot:
            standing[link] = standing.get(link, 0) + 1
    wrong = [link for link in ends if standing.get(link, 0) != 1]
    if wrong:
        return ("link", min(wrong))
    for k, lot in enumerate(value):
        if len({link[0] for link in lot}) > 1:
            return ("mixed", k)
    return "round" if has_round(ends, value) else None


def is_lot(ends, value):
    """Whether value, any value, is an ascending tuple, not (), of links with these ends."""
    if not isinstance(value, tuple) or not value:
        return False
    return all([is_link(ends, item) for item in value]) and ascends(value)


def is_link(ends, value):
    """Whether value, any value, is one of the links with these ends."""
    if not is_row(value, 3, 5) or not isinstance(value[0], str):
        return False
    return all([is_count(number) for number in value[1:]]) and value in ends


def has_round(ends, lots):
    """Whether lots and pieces go around: whether a lot joins two pieces that lots ahead of it have joined."""
    parts = {piece: piece for pair in ends.values() for piece in pair}
    for lot in lots:
        joined = {piece: parts[piece] for link in lot for piece in ends[link]}
        if len(set(list(joined.values()))) < len(joined):
            return True
        least = min(list(joined))
        olds = {part: True for part in joined.values()}
        parts = {piece: least if parts[piece] in olds else parts[piece] for piece in parts}
    return False


def ordered(game, owners):
    """Whether no history of copies of deeds of game, however many, has a ring: whether two copies of each have none."""
    many = tuple([deed for deed in range(len(game[2])) for _ in range(2)])
    return sorting(game, owners, many) is not None

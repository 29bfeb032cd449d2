"""Houses: what is one, and how one is mended."""

import unittest

from knownplay.houses import house_error, mended
from knownplay.joiners import rule_error
from knownplay.justparts import can_be_just, greatest
from knownplay.knownwires import bare_wire, plain_wire, silent_wire
from knownplay.leaks import leak
from knownplay.likeness import as_good
from knownplay.mixing import ordered
from knownplay.watchers import reach
from knownplay.wires import wire_error
from tests.knowing import MIXED, counting, some_knowing, too_many
from tests.test_leaks import BLAB, BOX, FAIR, MUTE, WHETHER
from tests.things import ODD_VALUES, YES, Things
from tests.weaving import is_cut

PARLOUR = (BOX, (FAIR, FAIR), (), 1, (1, 0), (BLAB, BLAB))
GOSSIP = (BOX, (BLAB, BLAB), (), 0, (0, 0), (FAIR, FAIR))
CELLAR = (BOX, (MUTE, MUTE), (), 5, (0, 0), (MUTE, MUTE))


def with_item(house, place, item):
    """A house with an item at a place."""
    return house[:place] + (item,) + house[place + 1:]


def some_rule(things, game):
    """A joiners' rule of few entries."""
    cells = len(game[1])
    return tuple((things.tiny_condition(cells), things.tiny_term(cells, ()))
                 for _ in range(things.random.randint(0, 2)))


def some_owners(things, game):
    """Owners of game that cut all of its deeds."""
    for _ in range(20):
        owners = tuple(things.random.randrange(3) for _ in game[1])
        if all(is_cut(owners, deed) for deed in game[2]):
            return owners
    return (things.random.randrange(6),) * len(game[1])


def some_houses(seed, many, most=40):
    """So many houses of tiny games."""
    things = Things(seed)
    found = []
    for knowing in some_knowing(seed + 1, many, most):
        game = knowing.game
        wires = [knowing.wire, things.tiny_wire(game), plain_wire(game), silent_wire(game), bare_wire(game)]
        wire, spare = things.random.choice(wires), things.random.choice(wires)
        house = (game, wire, some_rule(things, game), things.random.randint(0, 3), some_owners(things, game), spare)
        found.append(house)
    return found


class HouseErrors(unittest.TestCase):
    def test_houses(self):
        for house in (PARLOUR, GOSSIP, CELLAR, with_item(PARLOUR, 3, 200), with_item(PARLOUR, 2, (WHETHER,) * 7)):
            self.assertIsNone(house_error(house))
        for house in some_houses(581, 60):
            self.assertIsNone(house_error(house))

    def test_a_fault_in_each_place(self):
        bad = lambda place, item: house_error(with_item(PARLOUR, place, item))
        for value in ODD_VALUES + MIXED:
            self.assertEqual(house_error(value), "form")
            self.assertEqual(bad(0, value)[0], "game", value)
            error = wire_error(BOX, value)
            self.assertEqual((bad(1, value), bad(5, value)), (("wire", error), ("spare", error)) if error
                             else (None, None))
            error = rule_error(BOX, value)
            self.assertEqual(bad(2, value), ("rule", error) if error else None, value)
            lag = isinstance(value, int) and not isinstance(value, bool) and 0 <= value <= 200
            self.assertEqual(bad(3, value), None if lag else "lag", value)
            self.assertIn(bad(4, value), ("owners", None) if value == (0, 0) else ("owners",), value)
        for house in (list(PARLOUR), PARLOUR[:5], PARLOUR + (None,), ()):
            self.assertEqual(house_error(house), "form")

    def test_what_the_judges_tell(self):
        bad = lambda place, item: house_error(with_item(PARLOUR, place, item))
        self.assertEqual(bad(0, BOX[:3]), ("game", "form"))
        self.assertEqual(bad(0, (1,) + BOX[1:]), ("game", "players"))
        self.assertEqual(bad(1, (FAIR, FAIR * 4)), ("wire", ("rule", 1)))
        self.assertEqual(bad(5, (FAIR, ((YES, ("draw", 0)),))), ("spare", ("what", 1, 0, ("part", ()))))
        self.assertEqual(bad(2, ((YES, ("was", 0)),)), ("rule", ("entry", 0)))
        self.assertEqual([bad(3, lag) for lag in (-1, 201, False, None, (1,))], ["lag"] * 5)
        self.assertEqual([bad(4, owners) for owners in ((0, 6), (0,), (True, 0), [0, 0], None)], ["owners"] * 5)
        self.assertEqual(bad(4, (0, 1)), ("deed", 0))
        later = (BOX[0], BOX[1], BOX[2][1:] + BOX[2][:1], BOX[3])
        self.assertEqual(house_error(with_item(with_item(PARLOUR, 0, later), 4, (0, 1))), ("deed", 1))

    def test_the_first_fault_is_told(self):
        wrong = (BOX[:3], (FAIR,), None, -1, (0, 6), ())
        told = [("game", "form"), ("wire", "form"), ("rule", "form"), "lag", "owners", ("spare", "form")]
        for place in range(6):
            self.assertEqual(house_error(PARLOUR[:place] + wrong[place:]), told[place])
        self.assertEqual(house_error(PARLOUR[:4] + ((0, 1), None)), ("deed", 0))


class Mended(unittest.TestCase):
    def test_as_told(self):
        lags, wires, owners, spares, same = set(), 0, 0, 0, 0
        for house in some_houses(582, 150):
            game, wire, rule, lag, kept_by, spare = house
            better = mended(house)
            self.assertIsNone(house_error(better))
            wanted = wire
            for player in range(game[0]):
                wanted = greatest(game, wanted, player)
                self.assertIsNone(leak(game, wanted, player))
            reaches = [reach(game, wanted, player) for player in range(game[0])]
            least = lag if None in reaches else max(reaches + [lag])
            good = all(as_good(game, spare, wanted, player) is None for player in range(game[0]))
            self.assertEqual(better, (game, wanted, rule, least if least <= 200 else lag,
                                      kept_by if ordered(game, kept_by) else (0,) * len(game[1]), spare if good
                                      else wanted))
            self.assertEqual(mended(better), better)
            can = all(can_be_just(game, wire, player) for player in range(game[0]))
            self.assertEqual(can, all(can_be_just(game, wanted, player) and not leak(game, wanted, player)
                                      for player in range(game[0])))
            lags.add((None in reaches, least > lag))
            wires, owners, spares = wires + (wanted != wire), owners + (better[4] != kept_by), spares + (better[5] != spare)
            same += better == house
        self.assertEqual(lags, {(True, False), (False, False), (False, True)})
        self.assertGreater(min(wires, owners, spares, same), 5)

    def test_the_greatest_lag_and_one_more(self):
        for ticks, reaches, lag in ((199, 200, 200), (200, 201, 7), (215, 216, 7)):
            game, wire = self.clock(ticks)
            house = (game, wire, (), 7, (0,) * 4, wire)
            self.assertEqual((house_error(house), reach(game, wire, 0), reach(game, wire, 1)), (None, reaches, reaches))
            self.assertEqual(mended(house)[3], lag)

    def clock(self, ticks):
        """A game in which a coin is tossed, and then so many ticks are counted; the players hear nothing, or the end alone."""
        figures = (ticks % 6, ticks // 6 % 6, ticks // 36)
        ended = ("both", ("same", ("cell", 1), ("is", figures[0])), ("both", ("same", ("cell", 2), ("is", figures[1])),
                                                                     ("same", ("cell", 3), ("is", figures[2]))))
        full = lambda c: ("same", ("cell", c), ("is", 5))
        more = lambda c: ("choose", full(c), ("is", 0), ("sum", ("cell", c), ("is", 1)))
        tossed = ("same", ("cell", 0), ("is", 0))
        count = ((1, more(1)), (2, ("choose", full(1), more(2), ("cell", 2))),
                 (3, ("choose", ("both", full(1), full(2)), more(3), ("cell", 3))))
        deeds = ((None, 2, tossed, ((0, ("sum", ("draw",), ("is", 1))),), ()),
                 (None, 1, ("both", ("not", tossed), ("not", ended)), count, ()))
        return (2, ((3, 0), (6, 0), (6, 0), (6, 0)), deeds, ((("not", YES),) * 4,) * 2), (((ended, ("is", 1)),), ())

    def test_too_many(self):
        # More than 3000 pairs by views are too many for the first player, for the second one too.
        wide = counting((6, 6, 6, 6, 6))
        house = (wide, silent_wire(wide), (), 0, (0,) * 5, silent_wire(wide))
        too_many(self, lambda: mended(house))
        # The player 1 sees nothing of the counting: so many pairs come of 60 states, for it alone.
        few = counting((5, 4, 3))
        house = (few, plain_wire(few), (), 0, (0,) * 3, plain_wire(few))
        too_many(self, lambda: mended(house))
        seen = few[:3] + ((few[3][0],) * 2,)
        self.assertEqual(mended((seen, plain_wire(seen), (), 0, (0,) * 3, plain_wire(seen)))[3], 0)
        # Here as_good alone tells of too many: the spare wire tells the player 1 nothing, in sets that are great.
        steps = tuple(deed[:4] + ((),) for deed in seen[2])
        told = seen[:2] + (steps,) + seen[3:]
        blind = (told, plain_wire(told), (), 0, (0,) * 3, silent_wire(told))
        self.assertEqual(mended(blind)[5], plain_wire(told))

    def test_all_players_are_asked(self):
        # All see all. The spare wire leaves the last cell out for the player 0, so it is worse; the player 1 is told
        # nothing by it: its sets are as many as the ticks till all can be, and with the states in them too many.
        cells = ((6, 0), (6, 0), (5, 0), (4, 0))
        deeds = tuple((0, 1, YES, ((c, ("sum", ("cell", c), ("is", 1))),), (0, 1))
                      for c in range(4)) + ((0, 1, YES, (), (0, 1)),)
        game = (2, cells, deeds, ((YES,) * 4,) * 2)
        rule = tuple((YES, ("cell", c)) for c in range(3))
        plain = plain_wire(game)
        self.assertIsNotNone(as_good(game, (rule, rule), plain, 0))
        self.assertEqual(mended((game, plain, (), 0, (0,) * 4, (rule, rule)))[5], plain)
        too_many(self, lambda: as_good(game, (rule, ()), plain, 1))
        too_many(self, lambda: mended((game, plain, (), 0, (0,) * 4, (rule, ()))))


if __name__ == "__main__":
    unittest.main()

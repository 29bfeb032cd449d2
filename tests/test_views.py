"""What players see of states and of plays."""

import itertools
import unittest

from knownplay.games import renamed
from knownplay.knowngames import known_game
from knownplay.plays import state_of
from knownplay.views import alike_to, sight, view
from tests.model import Model
from tests.test_plays import put_anew, some_games
from tests.things import ASKED_CARD, HIDE, YES, Things

NO = ("not", YES)


class Sights(unittest.TestCase):
    def test_the_sights_of_all_states_of_many_games(self):
        for game in some_games(21, 60):
            model = Model(game)
            for state in model.all_states():
                for player in range(game[0]):
                    self.assertEqual(sight(game, player, state), model.sight(player, state))

    def test_each_player_has_its_own_sights(self):
        low = ("below", ("cell", 0), ("is", 2))
        game = (3, ((3, 0), (4, 0)), ((0, 1, YES, (), (0,)),), ((YES, NO), (low, ("not", low)), (NO, NO)))
        self.assertEqual([sight(game, player, (1, 3)) for player in range(3)], [(1, None), (1, None), (None, None)])
        self.assertEqual([sight(game, player, (2, 0)) for player in range(3)], [(2, None), (None, 0), (None, None)])


class Views(unittest.TestCase):
    def test_deeds_seen_not_seen_and_refused(self):
        # Three players; 0 sees what it and 1 do, 1 what all do, 2 what it and the server do.
        seen = ((0, 1), (0, 1), (1, 2), (2,))
        guard = ("same", ("cell", 0), ("is", 0))
        deeds = tuple((doer, 1, guard, (), eyes) for doer, eyes in zip((0, 1, 2, None), seen))
        close = (0, 1, YES, ((0, ("is", 1)),), (0,))
        game = (3, ((2, 0),), deeds + (close,), ((NO,),) * 3)
        play = ((0, 0), (1, 0), (2, 0), (3, 0), (4, 0), (0, 0), (1, 0), (2, 0))
        wanted = (
            (None, 0, 1, None, None, 4, ("no", 0), None, None),
            (None, 0, 1, 2, None, None, None, ("no", 1), None),
            (None, None, None, 2, 3, None, None, None, ("no", 2)),
        )
        for player, row in enumerate(wanted):
            self.assertEqual(view(game, player, play), tuple((what, (None,)) for what in row))

    def test_views_of_the_beginning(self):
        self.assertEqual(view(HIDE, 0, ()), ((None, (0, None)),))
        self.assertEqual(view(HIDE, 1, ()), ((None, (None, 1)),))

    def test_what_was_drawn_is_seen_by_cells_alone(self):
        cards = known_game("cards")
        # The player 1 has the last card in both; that 0 has the first one, or the second, it does not see.
        one, other = ((0, 0), (1, 1)), ((0, 1), (1, 1))
        self.assertEqual(view(cards, 1, one), view(cards, 1, other))
        self.assertEqual(view(cards, 1, one), ((None, (None, 0, 0)), (0, (None, 0, 1)), (1, (None, 3, 2))))
        self.assertEqual(view(cards, 0, one), ((None, (0, None, 0)), (0, (1, None, 1)), (1, (1, None, 2))))
        self.assertEqual(view(cards, 0, other), ((None, (0, None, 0)), (0, (2, None, 1)), (1, (2, None, 2))))

    def test_the_views_of_all_short_plays_of_many_games(self):
        for game in some_games(22, 25):
            model = Model(game)
            for play in model.plays(2):
                for player in range(game[0]):
                    self.assertEqual(view(game, player, play), model.view(player, play), (game, player, play))

    def test_the_views_of_longer_plays(self):
        things = Things(23)
        for game in some_games(23, 40):
            model = Model(game)
            play = model.some_play(things.random, 25)
            for player in range(game[0]):
                whole = view(game, player, play)
                self.assertEqual(whole, model.view(player, play))
                self.assertEqual(len(whole), len(play) + 1)
                for k in range(len(play) + 1):
                    self.assertEqual(view(game, player, play[:k]), whole[:k + 1])

    def test_a_view_of_some_thousand_ticks(self):
        things = Things(24)
        game = known_game("door")
        play = Model(game).some_play(things.random, 4000)
        for player in range(2):
            self.assertEqual(view(game, player, play), Model(game).view(player, play))
            self.assertTrue(alike_to(game, player, play, play))
            self.assertFalse(alike_to(game, player, play, play[:-1]))

    def test_results_are_tuples(self):
        for pair in view(ASKED_CARD, 1, ((2, 0), (1, 0))):
            self.assertEqual((type(pair), type(pair[1])), (tuple, tuple))
        self.assertIs(type(view(ASKED_CARD, 1, ())), tuple)
        self.assertIs(type(view(ASKED_CARD, 1, ((2, 0),))[1][0]), tuple)


class Alike(unittest.TestCase):
    def test_plays_are_alike_if_their_views_are(self):
        for game in some_games(25, 12):
            model = Model(game)
            plays = model.plays(2)[:30]
            for player in range(game[0]):
                views = [model.view(player, play) for play in plays]
                for (play, seen), (other, seen_too) in itertools.product(zip(plays, views), repeat=2):
                    self.assertIs(alike_to(game, player, play, other), seen == seen_too)

    def test_beginnings_of_alike_plays_are_alike(self):
        found = 0
        for game in some_games(26, 8):
            plays = [play for play in Model(game).plays(3) if len(play) == 3][:24]
            for player, play, other in itertools.product(range(game[0]), plays, plays):
                if play != other and alike_to(game, player, play, other):
                    found += 1
                    for k in range(3):
                        self.assertTrue(alike_to(game, player, play[:k], other[:k]))
        self.assertGreater(found, 50)

    def test_who_sees_all_has_unlike_views_of_unlike_states(self):
        for game in some_games(27, 25):
            game = game[:3] + ((((YES,) * len(game[1])),) + game[3][1:],)
            model = Model(game)
            led = {}
            for play in model.plays(2):
                led.setdefault(view(game, 0, play), set()).add(tuple(model.through(play)))
            self.assertEqual({len(ways) for ways in led.values()}, {1})

    def test_renamed_players_have_the_renamed_view(self):
        things = Things(28)
        for game in some_games(28, 30):
            players, cells, deeds = naming = things.naming(game)
            new = renamed(game, naming)
            play = Model(game).some_play(things.random, 8)
            new_play = tuple((deeds[deed], drawn) for deed, drawn in play)
            for player in range(game[0]):
                wanted = []
                for what, seen in view(game, player, play):
                    if isinstance(what, tuple):
                        what = ("no", deeds[what[1]])
                    elif what is not None:
                        what = deeds[what]
                    wanted.append((what, put_anew(seen, cells)))
                self.assertEqual(view(new, players[player], new_play), tuple(wanted))
                state = state_of(game, play)
                new_sight = sight(new, players[player], put_anew(state, cells))
                self.assertEqual(new_sight, put_anew(sight(game, player, state), cells))


if __name__ == "__main__":
    unittest.main()

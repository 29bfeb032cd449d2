"""Which moves are there, where they lead, and what is a play."""

import unittest

from knownplay.errors import Unfit
from knownplay.games import renamed
from knownplay.knowngames import known_game, known_names
from knownplay.plays import is_done, moves, play_error, state_of, stepped
from tests.model import Model
from tests.things import ASKED_CARD, CARD, HIDE, ODD_VALUES, OVER, YES, ZERO, Things

NO = ("not", YES)
ONE = ("is", 1)
DRAWN = ("draw",)


def some_games(seed, many, most=200):
    """The known games, those of the examples, and so many others of at most so many states."""
    things = Things(seed)
    games = [known_game(name) for name in known_names()] + [CARD, ASKED_CARD, HIDE, OVER]
    return games + [things.small_game(most) for _ in range(many)]


def put_anew(items, numbers):
    """The tuple that has each of items at the place of its new number."""
    return tuple(item for _, item in sorted(zip(numbers, items)))


def with_deeds(cells, *deeds):
    """A game of two players who see all."""
    sights = ((YES,) * len(cells),) * 2
    return (2, cells, deeds, sights)


class Moves(unittest.TestCase):
    def test_all_moves_of_all_states_of_many_games(self):
        for game in some_games(1, 150):
            model = Model(game)
            for state in model.all_states():
                wanted = model.moves(state)
                self.assertEqual(moves(game, state), tuple(sorted(wanted)), (game, state))
                for move, (done, behind) in wanted.items():
                    self.assertIs(is_done(game, state, move), done, (game, state, move))
                    self.assertEqual(stepped(game, state, move), behind, (game, state, move))

    def test_the_games_have_moves_of_all_kinds(self):
        kinds = set()
        for game in some_games(1, 150):
            model = Model(game)
            for state in model.all_states():
                for (deed, drawn), (done, behind) in model.moves(state).items():
                    kinds.add((game[2][deed][0] is None, done, drawn, behind == state))
        done = {(server, True, drawn, same) for server in (True, False) for drawn in range(4) for same in (True, False)}
        self.assertEqual(kinds, done | {(False, False, 0, True)})

    def test_a_deed_that_cannot_be_done_is_refused_unless_it_is_the_servers(self):
        game = with_deeds(((3, 0),), (None, 4, NO, (), ()), (0, 4, NO, ((0, ONE),), (0,)), (1, 2, YES, (), (1,)))
        self.assertEqual(moves(game, (2,)), ((1, 0), (2, 0), (2, 1)))
        self.assertEqual([is_done(game, (2,), move) for move in moves(game, (2,))], [False, True, True])
        self.assertEqual(stepped(game, (2,), (1, 0)), (2,))
        for move in ((0, 0), (1, 1), (1, 3), (2, 2)):
            self.assertRaises(Unfit, stepped, game, (2,), move)

    def test_worths_are_taken_modulo_the_size(self):
        far = ("is", 99)
        for size in range(2, 7):
            for k in range(100):
                effect = ((0, ("less", ("is", 0), ("is", k))), (1, ("sum", ("is", k), far)))
                game = with_deeds(((size, 0), (size, 0)), (0, 1, YES, effect, (0,)))
                self.assertEqual(stepped(game, (1, 1), (0, 0)), ((-k) % size, (k + 99) % size))
        game = with_deeds(((6, 0),), (0, 1, YES, ((0, ("less", ("less", ("is", 0), far), far)),), (0,)))
        self.assertEqual(stepped(game, (0,), (0, 0)), (0,))
        game = with_deeds(((5, 0),), (0, 1, YES, ((0, ("less", ("less", ("is", 0), far), far)),), (0,)))
        self.assertEqual(stepped(game, (0,), (0, 0)), (2,))

    def test_each_cell_has_its_own_size(self):
        effects = tuple((c, ("sum", ("cell", c), ("is", 5))) for c in range(5))
        game = with_deeds(((2, 0), (3, 0), (4, 0), (5, 0), (6, 0)), (0, 1, YES, effects, (0,)))
        self.assertEqual(stepped(game, (0, 0, 0, 0, 0), (0, 0)), (1, 2, 1, 0, 5))
        self.assertEqual(stepped(game, (1, 2, 3, 4, 5), (0, 0)), (0, 1, 0, 4, 4))

    def test_all_effects_are_told_at_the_state_ahead(self):
        turn = tuple((c, ("cell", (c + 1) % 3)) for c in range(3))
        back = tuple((c, ("cell", (c + 2) % 3)) for c in range(3))
        game = with_deeds(((6, 0), (6, 1), (6, 2)), (0, 1, YES, turn, (0,)), (0, 1, YES, back, (0,)))
        self.assertEqual(stepped(game, (3, 4, 5), (0, 0)), (4, 5, 3))
        self.assertEqual(stepped(game, (3, 4, 5), (1, 0)), (5, 3, 4))
        once = ((0, ONE), (1, ("choose", ("same", ("cell", 0), ZERO), ("is", 2), ("is", 3))), (2, ("cell", 0)))
        game = with_deeds(((6, 0), (6, 0), (6, 5)), (0, 1, YES, once, (0,)))
        self.assertEqual(stepped(game, (0, 0, 5), (0, 0)), (1, 2, 0))

    def test_effects_have_the_drawn_number_and_guards_have_not(self):
        effects = ((0, ("sum", ("cell", 0), DRAWN)), (1, ("less", ZERO, DRAWN)))
        game = with_deeds(((6, 0), (6, 0)), (None, 4, YES, effects, ()))
        self.assertEqual([stepped(game, (5, 3), (0, drawn)) for drawn in range(4)], [(5, 0), (0, 5), (1, 4), (2, 3)])
        self.assertEqual(moves(game, (5, 3)), ((0, 0), (0, 1), (0, 2), (0, 3)))

    def test_cells_without_an_effect_stay(self):
        game = with_deeds(((6, 0), (6, 0), (6, 0)), (0, 1, YES, ((1, ONE),), (0,)), (1, 1, YES, (), (1,)))
        self.assertEqual(stepped(game, (3, 4, 5), (0, 0)), (3, 1, 5))
        self.assertEqual(stepped(game, (3, 4, 5), (1, 0)), (3, 4, 5))

    def test_values_that_are_no_move_are_unfit(self):
        others = [(True, 0), (1, False), (False, 0), (0, True), [1, 0], (1,), (1, 0, 0), (1, 0, None), ((1, 0),),
                  (-1, 0), (0, -1), (3, 0), (0, 3), (10 ** 399, 0), (0, 10 ** 399), ("1", "0"), (1, "0"), ("1", 0),
                  (None, 0), (1, None), ((1,), (0,)), ([1], [0]), {1: 0}, "1:0", 1, "(1, 0)", (1, (0,)), (1, {})]
        for other in others + list(ODD_VALUES):
            for state in ((0, 0), (2, 0)):
                with self.assertRaises(Unfit, msg=other) as caught:
                    stepped(ASKED_CARD, state, other)
                self.assertEqual(vars(caught.exception), {})

    def test_all_pairs_of_numbers_that_are_no_move_are_unfit(self):
        for game in some_games(2, 20, 60):
            model = Model(game)
            for state in model.all_states():
                here = model.moves(state)
                for move in [(deed, drawn) for deed in range(-1, 10) for drawn in range(-1, 5)]:
                    if move not in here:
                        self.assertRaises(Unfit, stepped, game, state, move)


class Plays(unittest.TestCase):
    def test_plays_are_plays_and_lead_where_they_lead(self):
        things = Things(3)
        for game in some_games(3, 60):
            model = Model(game)
            for many in (0, 1, 2, 5, 30):
                play = model.some_play(things.random, many)
                self.assertIsNone(play_error(game, play))
                for k, state in enumerate(model.through(play)):
                    self.assertIsNone(play_error(game, play[:k]))
                    self.assertEqual(state_of(game, play[:k]), state)

    def test_the_state_behind_is_that_behind_the_last_move(self):
        things = Things(4)
        for game in some_games(4, 40):
            play = Model(game).some_play(things.random, 12)
            for k in range(1, len(play) + 1):
                ahead = state_of(game, play[:k - 1])
                self.assertIn(play[k - 1], moves(game, ahead))
                self.assertEqual(state_of(game, play[:k]), stepped(game, ahead, play[k - 1]))

    def test_the_first_item_that_is_no_move_is_told(self):
        things = Things(5)
        for game in some_games(5, 40):
            model = Model(game)
            play = model.some_play(things.random, 8)
            states = model.through(play)
            bad = [None, (True, 0), [0, 0], (0, 0, 0), (8, 0), (0, 4), "0:0", (), ((0, 0),), (0, False)]
            for k, state in enumerate(states):
                pairs = [(deed, drawn) for deed in range(8) for drawn in range(4)]
                wrong = [pair for pair in pairs if pair not in model.moves(state)]
                for move in bad + wrong:
                    for rest in (play[k:], play[k + 1:], (move,) * 2, ()):
                        self.assertEqual(play_error(game, play[:k] + (move,) + rest), ("move", k), (game, move))

    def test_behind_the_end_no_item_is_a_move(self):
        self.assertIsNone(play_error(OVER, ((0, 0),)))
        for value in ((0, 0), None, (1, 0)):
            self.assertEqual(play_error(OVER, ((0, 0), value)), ("move", 1))

    def test_what_is_no_tuple_has_no_form(self):
        for value in [value for value in ODD_VALUES if not isinstance(value, tuple)] + [[(0, 0)], [], {(0, 0): 0}]:
            self.assertEqual(play_error(CARD, value), "form", value)
        for value in [value for value in ODD_VALUES if isinstance(value, tuple) and value]:
            self.assertEqual(play_error(CARD, value), ("move", 0), value)
        self.assertIsNone(play_error(CARD, ()))

    def test_a_play_of_some_thousand_ticks(self):
        things = Things(6)
        for name in ("cups", "lamps", "door"):
            game = known_game(name)
            play = Model(game).some_play(things.random, 5000)
            self.assertEqual(len(play), 5000)
            self.assertIsNone(play_error(game, play))
            self.assertEqual(state_of(game, play), Model(game).through(play)[-1])
            self.assertEqual(play_error(game, play + ((0, 9),)), ("move", 5000))
            self.assertEqual(play_error(game, play[:4321] + (None,) + play[4321:]), ("move", 4321))

    def test_a_refused_move_changes_no_cell(self):
        refused = 0
        for game in some_games(7, 40):
            for state in Model(game).all_states():
                for move in moves(game, state):
                    if not is_done(game, state, move):
                        refused += 1
                        self.assertEqual((stepped(game, state, move), move[1]), (state, 0))
        self.assertGreater(refused, 100)

    def test_a_game_ends_where_all_deeds_are_the_servers_and_none_can_be_done(self):
        ended = 0
        for game in some_games(8, 60):
            served = game[:2] + (tuple((None,) + deed[1:] for deed in game[2]),) + game[3:]
            for state in Model(game).all_states():
                can_be_done = [d for d in range(len(game[2])) if (d, 0) in moves(served, state)]
                by_players = [d for d, deed in enumerate(game[2]) if deed[0] is not None]
                self.assertEqual(moves(game, state) == (), not can_be_done and not by_players)
                self.assertEqual({d for d, _ in moves(served, state)}, set(can_be_done))
                ended += moves(served, state) == ()
        self.assertGreater(ended, 100)


class NamedAnew(unittest.TestCase):
    def test_moves_states_and_plays_are_named_anew(self):
        things = Things(9)
        for game in some_games(9, 40):
            model = Model(game)
            naming = things.naming(game)
            new = renamed(game, naming)
            for state in model.all_states():
                new_state = put_anew(state, naming[1])
                called = {(deed, drawn): (naming[2][deed], drawn) for deed, drawn in moves(game, state)}
                self.assertEqual(moves(new, new_state), tuple(sorted(called.values())))
                for move, new_move in called.items():
                    self.assertIs(is_done(new, new_state, new_move), is_done(game, state, move))
                    self.assertEqual(stepped(new, new_state, new_move),
                                     put_anew(stepped(game, state, move), naming[1]))
            play = model.some_play(things.random, 10)
            new_play = tuple((naming[2][deed], drawn) for deed, drawn in play)
            self.assertIsNone(play_error(new, new_play))
            self.assertEqual(state_of(new, new_play), put_anew(state_of(game, play), naming[1]))


if __name__ == "__main__":
    unittest.main()

"""Points 2.1 to 2.6: games and yards."""

import itertools
import random
import unittest

from sumsplay.errors import Unknown
from sumsplay.yard import Yard
from tests.worked import (
    ladder_games, low_games, mixed_games, row_games, shape, soon, tile_games, turned_shape, unknown_numbers)


def state(yard):
    """All that a yard tells of the games that it keeps."""
    return [(yard.lefts(game), yard.rights(game)) for game in range(yard.size)]


class GameTest(unittest.TestCase):
    """Points 2.1 to 2.3."""

    def test_a_new_yard(self):
        yard = Yard()
        self.assertEqual(yard.size, 1)
        self.assertEqual((yard.lefts(0), yard.rights(0)), ([], []))
        self.assertEqual((yard.height(0), yard.followers(0), yard.turned(0)), (0, [0], 0))
        self.assertEqual(yard.game([], []), 0)
        self.assertEqual(yard.size, 1)

    def test_order_and_duplicates_do_not_count(self):
        yard = Yard()
        one = yard.game([0], [])
        star = yard.game([0], [0])
        options = [0, one, star]
        game = yard.game(options, [one, star])
        size = yard.size
        for row in itertools.permutations(options):
            for more in ([], [0], [0, 0, star], list(row), options * 20):
                self.assertEqual(yard.game(list(row) + more, [star, one, star]), game)
                self.assertEqual(yard.game(more + list(row), [one, one, star, star]), game)
        self.assertEqual(yard.size, size)
        self.assertEqual(yard.lefts(game), sorted(options))
        self.assertEqual(yard.rights(game), sorted([one, star]))

    def test_two_games_are_one_exactly_if_their_options_are(self):
        yard = Yard()
        games = low_games(yard)
        self.assertEqual(len(games), 256)
        self.assertEqual(yard.size, 256)
        self.assertEqual(games, list(range(256)))
        pairs = {(tuple(yard.lefts(game)), tuple(yard.rights(game))) for game in games}
        self.assertEqual(len(pairs), 256)
        for game in games:
            self.assertEqual(yard.game(yard.lefts(game), yard.rights(game)), game)
        self.assertEqual(yard.size, 256)

    def test_left_and_right_options_are_told_apart(self):
        yard = Yard()
        one, other = yard.game([0], []), yard.game([], [0])
        self.assertNotEqual(one, other)
        self.assertEqual((yard.lefts(one), yard.rights(one)), ([0], []))
        self.assertEqual((yard.lefts(other), yard.rights(other)), ([], [0]))
        mixed = yard.game([one], [other])
        self.assertEqual(yard.options(mixed, "left"), [one])
        self.assertEqual(yard.options(mixed, "right"), [other])

    def test_options_are_ascending(self):
        yard = Yard()
        games = mixed_games(yard, random.Random(1), 80)
        for game in games:
            lefts, rights = yard.lefts(game), yard.rights(game)
            self.assertEqual(lefts, sorted(set(lefts)))
            self.assertEqual(rights, sorted(set(rights)))
            self.assertEqual(yard.options(game, "left"), lefts)
            self.assertEqual(yard.options(game, "right"), rights)
        many = yard.game(games[::-1] + games, games[::-1])
        self.assertEqual(yard.lefts(many), sorted(set(games)))
        self.assertEqual(yard.rights(many), sorted(set(games)))

    def test_numbers_and_size(self):
        yard = Yard()
        kept = {0}
        for lefts, rights in (([0], []), ([], [0]), ([0], [0]), ([0], []), ([1, 2], [3]), ([2, 1], [3]), ([3], [1, 2])):
            size = yard.size
            game = yard.game(lefts, rights)
            self.assertIs(type(game), int)
            self.assertEqual(yard.size, size if game in kept else size + 1)
            kept.add(game)
            self.assertEqual(kept, set(range(yard.size)))

    def test_what_keeps_no_game(self):
        yard = Yard()
        games = low_games(yard) + mixed_games(yard, random.Random(2), 60)
        size, before = yard.size, state(yard)
        for game in games:
            yard.lefts(game), yard.rights(game), yard.options(game, "left"), yard.options(game, "right")
            yard.height(game), yard.followers(game)
            yard.game(yard.lefts(game), yard.rights(game))
        self.assertEqual(yard.size, size)
        self.assertEqual(state(yard), before)

    def test_games_that_are_kept_stay(self):
        yard = Yard()
        chance = random.Random(3)
        games = [0]
        for _ in range(120):
            before = state(yard)
            lefts = [chance.choice(games) for _ in range(chance.randint(0, 3))]
            rights = [chance.choice(games) for _ in range(chance.randint(0, 3))]
            games.append(yard.game(lefts, rights))
            if chance.random() < 0.3:
                games.append(yard.turned(chance.choice(games)))
            self.assertEqual(state(yard)[:len(before)], before)

    def test_lists_that_are_passed_are_neither_changed_nor_kept(self):
        yard = Yard()
        one = yard.game([0], [])
        lefts, rights = [one, 0, one], [one]
        game = yard.game(lefts, rights)
        self.assertEqual((lefts, rights), ([one, 0, one], [one]))
        lefts.clear()
        rights.append(0)
        self.assertEqual((yard.lefts(game), yard.rights(game)), ([0, one], [one]))
        self.assertEqual(yard.game([0, one], [one]), game)
        options = [one]
        both = yard.game(options, options)
        options.append(0)
        self.assertEqual((yard.lefts(both), yard.rights(both)), ([one], [one]))

    def test_lists_that_are_told_are_new(self):
        yard = Yard()
        one = yard.game([0], [])
        game = yard.game([0, one], [0, one])

        def lists():
            return [yard.lefts(game), yard.rights(game), yard.options(game, "left"), yard.options(game, "right"),
                    yard.followers(game)]

        before = lists()
        for told in lists():
            told.append(77)
            told[0] = 55
            self.assertEqual(lists(), before)
            told.clear()
            self.assertEqual(lists(), before)
        self.assertEqual(yard.game([one, 0], [0, one]), game)

    def test_two_yards_have_no_effect_on_each_other(self):
        first, second = Yard(), Yard()
        one = first.game([0], [])
        first.turned(first.game([one], [0]))
        self.assertEqual(second.size, 1)
        with self.assertRaises(Unknown):
            second.lefts(one)
        self.assertEqual(second.game([], [0]), 1)
        self.assertEqual((second.lefts(1), second.rights(1)), ([], [0]))
        self.assertEqual((first.lefts(one), first.rights(one)), ([0], []))

    def test_the_size_cannot_be_assigned_to(self):
        yard = Yard()
        with self.assertRaises(AttributeError):
            yard.size = 5
        self.assertEqual(yard.size, 1)


class UnknownTest(unittest.TestCase):
    """Point 2.2: numbers that are unknown, in each argument."""

    def setUp(self):
        self.yard = Yard()
        self.one = self.yard.game([0], [])
        self.star = self.yard.game([0], [0])
        self.before = state(self.yard)

    def refused(self, action, *passed):
        with self.assertRaises(Unknown):
            action(*passed)
        self.assertEqual(state(self.yard), self.before)

    def test_unknown_games(self):
        yard = self.yard
        for number in unknown_numbers(yard):
            for action in (yard.lefts, yard.rights, yard.height, yard.followers, yard.turned):
                self.refused(action, number)
            self.refused(yard.options, number, "left")
            self.refused(yard.options, number, "right")

    def test_unknown_options(self):
        yard = self.yard
        for number in unknown_numbers(yard):
            for options in ([number], [0, number], [number, 0], [self.one, number, self.star], [number, number]):
                self.refused(yard.game, options, [])
                self.refused(yard.game, [], options)
                self.refused(yard.game, options, [self.one, self.star])
                self.refused(yard.game, [self.one, self.star], options)
                self.refused(yard.game, options, options)

    def test_a_call_that_raises_leaves_the_next_numbers_as_they_were(self):
        yard, other = self.yard, Yard()
        other.game([0], [])
        other.game([0], [0])
        for number in unknown_numbers(yard):
            self.refused(yard.game, [self.star, number], [self.one])
        self.assertEqual(yard.game([self.star], [self.one]), other.game([self.star], [self.one]))
        self.assertEqual(state(yard), state(other))

    def test_the_last_number_is_known(self):
        yard = self.yard
        self.assertEqual(yard.lefts(yard.size - 1), yard.lefts(self.star))
        self.refused(yard.lefts, yard.size)
        game = yard.game([yard.size - 1], [])
        self.assertEqual(yard.lefts(game), [self.star])
        self.before = state(yard)
        self.refused(yard.game, [yard.size], [])


class HeightAndFollowersTest(unittest.TestCase):
    """Points 2.4 and 2.5."""

    def check(self, yard, game):
        followers = {game}
        while True:
            more = {option for one in followers for option in yard.lefts(one) + yard.rights(one)} - followers
            if not more:
                break
            followers = followers | more
        self.assertEqual(yard.followers(game), sorted(followers))
        options = yard.lefts(game) + yard.rights(game)
        expected = 1 + max(yard.height(option) for option in options) if options else 0
        self.assertEqual(yard.height(game), expected)

    def test_low_and_mixed_games(self):
        yard = Yard()
        for game in low_games(yard) + mixed_games(yard, random.Random(4), 150):
            self.check(yard, game)

    def test_named_games(self):
        yard = Yard()
        one = yard.game([0], [])
        two = yard.game([one], [])
        high = yard.game([0], [two])
        self.assertEqual([yard.height(game) for game in (0, one, two, high)], [0, 1, 2, 3])
        self.assertEqual(yard.height(yard.game([two], [0])), 3)
        self.assertEqual(yard.height(yard.game([], [two])), 3)
        self.assertEqual(yard.followers(high), sorted([0, one, two, high]))
        self.assertEqual(yard.followers(two), sorted([0, one, two]))

    def test_followers_of_both_sides_in_turn_count(self):
        yard = Yard()
        one, other = yard.game([0], []), yard.game([], [0])
        first = yard.game([other], [])
        second = yard.game([], [first])
        self.assertEqual(yard.followers(second), sorted([0, other, first, second]))
        self.assertNotIn(one, yard.followers(second))

    def test_rows_of_100_games(self):
        for side in ("left", "right"):
            yard = Yard()
            games = row_games(yard, 100, side)
            self.assertEqual([yard.height(game) for game in games], list(range(101)))
            for length in (0, 1, 50, 100):
                self.assertEqual(yard.followers(games[length]), sorted(games[:length + 1]))
            self.assertEqual(yard.size, 101)

    def test_somewhat_higher_games(self):
        yard = Yard()
        games = row_games(yard, 1500)
        self.assertEqual(yard.height(games[-1]), 1500)
        self.assertEqual(yard.followers(games[-1]), sorted(games))
        self.assertEqual(yard.height(yard.turned(games[-1])), 1500)

    def test_options_that_share_their_followers(self):
        yard = Yard()
        with soon():
            games = ladder_games(yard, 100)
            top = yard.game(games, games[::-1])
            self.assertEqual([yard.height(game) for game in games], list(range(101)))
            self.assertEqual((yard.height(top), yard.followers(top)), (101, sorted([*games, top])))

    def test_many_followers(self):
        yard = Yard()
        with soon():
            games = tile_games(yard, 50, 50)
            self.assertEqual(len(set(games.values())), 2500)
            self.assertEqual(yard.followers(games[49, 49]), sorted(games.values()))
            self.assertEqual(yard.height(games[49, 49]), 98)
            for game in games.values():
                yard.height(game)

    def test_50000_followers(self):
        yard = Yard()
        chance = random.Random(5)
        with soon():
            last, games = [0], [0]
            for _ in range(50):
                last = sorted({yard.game(chance.sample(last, min(4, len(last))), [chance.choice(games) for _ in range(4)])
                               for _ in range(990)})
                games = games + last
            top = yard.game(games, last)
            self.assertEqual(yard.followers(top), sorted([*games, top]))
            self.assertEqual(yard.height(top), 51)
            self.assertEqual(yard.turned(yard.turned(top)), top)


class TurnedTest(unittest.TestCase):
    """Point 2.6."""

    def check(self, yard, game):
        """Turns a game and compares it, and the size behind it, with the shapes of the games."""
        shapes = {shape(yard, one) for one in range(yard.size)}
        needed = {turned_shape(shape(yard, one)) for one in yard.followers(game)}
        turned = yard.turned(game)
        self.assertEqual(shape(yard, turned), turned_shape(shape(yard, game)))
        self.assertEqual(yard.size, len(shapes | needed))
        size = yard.size
        self.assertEqual(yard.turned(turned), game)
        self.assertEqual(yard.turned(game), turned)
        self.assertEqual(yard.size, size)
        self.assertEqual(yard.lefts(turned), sorted(yard.turned(one) for one in yard.rights(game)))
        self.assertEqual(yard.rights(turned), sorted(yard.turned(one) for one in yard.lefts(game)))
        self.assertEqual(yard.size, size)

    def test_low_games(self):
        source = Yard()
        low_games(source)
        for game in range(source.size):
            self.check(source, game)
        self.assertEqual(source.size, 256)

    def test_each_low_game_in_a_new_yard(self):
        source = Yard()
        for game in low_games(source)[::5]:
            yard = Yard()
            number = {}
            for one in source.followers(game):
                number[one] = yard.game([number[option] for option in source.lefts(one)],
                                        [number[option] for option in source.rights(one)])
            self.check(yard, number[game])

    def test_mixed_games(self):
        yard = Yard()
        for game in mixed_games(yard, random.Random(6), 60, 2)[::3]:
            self.check(yard, game)

    def test_before_and_after_game_made_it(self):
        yard = Yard()
        one = yard.game([0], [])
        game = yard.game([one], [0])
        self.assertEqual(yard.size, 3)
        turned = yard.turned(game)
        # The turned forms of 0, one and the game: the first is kept already.
        self.assertEqual(yard.size, 5)
        self.assertEqual(yard.game([0], [yard.turned(one)]), turned)
        self.assertEqual(yard.size, 5)
        other = Yard()
        one, less = other.game([0], []), other.game([], [0])
        made = other.game([0], [less])
        game = other.game([one], [0])
        self.assertEqual(other.size, 5)
        self.assertEqual(other.turned(game), made)
        self.assertEqual(other.turned(made), game)
        self.assertEqual(other.size, 5)

    def test_a_turned_form_that_game_makes_after_its_options_were_turned(self):
        yard = Yard()
        one = yard.game([0], [])
        less = yard.turned(one)
        game = yard.game([one], [0])
        made = yard.game([0], [less])
        size = yard.size
        self.assertEqual(yard.turned(made), game)
        self.assertEqual(yard.turned(game), made)
        self.assertEqual(yard.size, size)

    def test_games_that_are_their_own_turned_form(self):
        yard = Yard()
        star = yard.game([0], [0])
        two = yard.game([0, star], [0, star])
        size = yard.size
        self.assertEqual((yard.turned(0), yard.turned(star), yard.turned(two)), (0, star, two))
        self.assertEqual(yard.size, size)
        one = yard.game([0], [])
        switch = yard.game([one], [yard.turned(one)])
        self.assertEqual(yard.turned(switch), switch)

    def test_a_row_of_100_games(self):
        yard = Yard()
        games = row_games(yard, 100)
        self.assertEqual(yard.size, 101)
        turned = yard.turned(games[-1])
        self.assertEqual(yard.size, 201)
        other = row_games(yard, 100, "right")
        self.assertEqual(yard.size, 201)
        self.assertEqual(turned, other[-1])
        self.assertEqual([yard.turned(game) for game in games], other)

    def test_options_that_share_their_followers(self):
        yard = Yard()
        with soon():
            games = ladder_games(yard, 100)
            turned = yard.turned(games[-1])
            self.assertEqual(yard.turned(turned), games[-1])
            tiles = tile_games(yard, 40, 40)
            size = yard.size
            turned = yard.turned(tiles[39, 39])
            self.assertEqual(yard.turned(turned), tiles[39, 39])
            self.assertGreater(yard.size, size)
            self.assertEqual(len(yard.followers(turned)), 1600)

    def test_turning_every_game_of_a_great_yard(self):
        yard = Yard()
        with soon():
            games = tile_games(yard, 100, 100)
            for game in games.values():
                self.assertEqual(yard.turned(yard.turned(game)), game)


if __name__ == "__main__":
    unittest.main()

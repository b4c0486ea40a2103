"""Points 7.4 to 7.10: walls, heats and means of games, and cooled games."""

import itertools
import random
import unittest
from fractions import Fraction

from sumsplay.dyadic import Dyadic
from sumsplay.errors import BadValue, Unknown
from sumsplay.forms import Forms
from sumsplay.heat import Heat
from sumsplay.order import Order
from sumsplay.sums import Sums
from sumsplay.values import Values
from sumsplay.walls import Wall, highest, lowest
from sumsplay.yard import Yard
from tests.anew import Anew, Warm, dyadic, form, forms_alone, fraction, new_values, numbers_of_age
from tests.worked import (
    heap_games, ladder_games, low_games, mixed_games, row_games, soon, tile_games, unknown_numbers, zigzag_games)

STEP = Fraction(1, 32)
MOST = 8
HEATS = [Fraction(0), Fraction(1, 4), Fraction(1, 2), Fraction(1), Fraction(3, 2), Fraction(2), Fraction(11, 4), Fraction(5)]


def new_heat():
    return Heat(new_values())


def told(some_wall):
    """The points and the slope that a wall tells."""
    return [(fraction(heat), fraction(place)) for heat, place in some_wall.points()], some_wall.slope


def place(some_wall, heat):
    return fraction(some_wall.at(dyadic(heat)))


def some_games(yard, seed, count=40):
    """Games of a height of at most 5, among them numbers, hot games, and games whose options are hot games."""
    chance = random.Random(seed)
    numbers = [form(yard, number) for number in numbers_of_age(3)]
    found = chance.sample(numbers, 4) + [0, yard.game([0], [0])]
    hot = [yard.game(chance.sample(numbers, chance.randint(1, 2)), chance.sample(numbers, chance.randint(1, 2)))
           for _ in range(count)]
    hot = [game for game in hot if yard.height(game) <= 4]
    for _ in range(count):
        sides = [[chance.choice(hot + numbers) for _ in range(chance.randint(1, 2))] for _ in range(2)]
        found.append(yard.game(*sides))
    low = low_games(yard)
    return sorted(set(found + hot[:count // 3] + chance.sample(low, count // 3)))


def small_games(yard, seed, count=16):
    """A few games of a height of at most 4, sums of which are made."""
    chance = random.Random(seed)
    games = [game for game in some_games(yard, seed) if yard.height(game) <= 4]
    return chance.sample(games, count)


class WallsTest(unittest.TestCase):
    """Points 7.4 and 7.5."""

    def check_game(self, heat, warm, game):
        left, right, own_heat = warm.told(game)
        left_wall, right_wall = heat.walls(game)
        self.assertEqual([type(left_wall), type(right_wall)], [Wall, Wall])
        for at, temperature in enumerate(warm.heats):
            self.assertEqual(place(left_wall, temperature), left[at])
            self.assertEqual(place(right_wall, temperature), right[at])
        if own_heat is None:
            self.assertIsNone(heat.heat(game))
        else:
            self.assertEqual(fraction(heat.heat(game)), own_heat)
        self.assertEqual(fraction(heat.mean(game)), left[-1])
        self.assertEqual((left_wall.slope, right_wall.slope), (0, 0))

    def test_walls_by_the_words_of_the_point(self):
        for seed in (1, 2):
            heat = new_heat()
            games = some_games(heat.worth.yard, seed)
            warm = Warm(Anew(heat.worth.yard), STEP, MOST)
            heats = set()
            for game in games:
                self.check_game(heat, warm, game)
                heats.add(heat.heat(game) and heat.heat(game).text())
            self.assertGreater(len(heats), 6)

    def test_all_low_games(self):
        heat = new_heat()
        games = low_games(heat.worth.yard)
        warm = Warm(Anew(heat.worth.yard), Fraction(1, 8), 4)
        for game in games:
            self.check_game(heat, warm, game)

    def test_games_with_options_of_many_kinds(self):
        heat = new_heat()
        yard = heat.worth.yard
        games = some_games(yard, 3, 20)
        chance = random.Random(4)
        deeper = [yard.game(chance.sample(games, 2), chance.sample(games, 2)) for _ in range(40)]
        # The answer of a game with much to gain hangs on how it compares with others.
        warm = Warm(Anew(yard), Fraction(1, 64), 10)
        for game in deeper:
            if yard.height(game) <= 6:
                self.check_game(heat, warm, game)

    def test_numbers(self):
        heat = new_heat()
        for number in numbers_of_age(5):
            game = heat.worth.number(dyadic(number))
            self.assertIsNone(heat.heat(game))
            self.assertEqual(fraction(heat.mean(game)), number)
            self.assertEqual([told(some) for some in heat.walls(game)], [([(0, number)], 0)] * 2)

    def test_games_of_two_numbers(self):
        heat = new_heat()
        yard = heat.worth.yard
        numbers = numbers_of_age(3)
        for high, low in itertools.product(numbers, repeat=2):
            if high >= low:
                game = yard.game([form(yard, high)], [form(yard, low)])
                mean, own_heat = (high + low) / 2, (high - low) / 2
                self.assertEqual(fraction(heat.mean(game)), mean)
                self.assertEqual(fraction(heat.heat(game)), own_heat)
                left = [(0, high), (own_heat, mean)] if own_heat else [(0, high)]
                right = [(0, low), (own_heat, mean)] if own_heat else [(0, low)]
                self.assertEqual([told(some) for some in heat.walls(game)], [(left, 0), (right, 0)])

    def test_named_games(self):
        heat = new_heat()
        yard, number = heat.worth.yard, heat.worth.number
        for game in (heat.worth.heap(1), heat.worth.heap(3), heat.worth.up(2), heat.worth.up(1, 1)):
            self.assertEqual((heat.mean(game).text(), heat.heat(game).text()), ("0", "0"))
            self.assertEqual([told(some) for some in heat.walls(game)], [([(0, 0)], 0)] * 2)
        threat = yard.game([number(Dyadic(5))], [number(Dyadic(1))])
        game = yard.game([threat], [number(Dyadic(0))])
        # Left's move keeps a threat, which right answers up to the heat 2 of the threat.
        self.assertEqual((heat.mean(game).text(), heat.heat(game).text()), ("1", "1"))
        self.assertEqual(told(heat.walls(game)[0]), ([(0, 1)], 0))
        self.assertEqual(told(heat.walls(game)[1]), ([(0, 0), (1, 1)], 0))
        game = yard.game([threat], [number(Dyadic(-6))])
        self.assertEqual((heat.mean(game).text(), heat.heat(game).text()), ("-3/2", "9/2"))
        self.assertEqual(told(heat.walls(game)[0]), ([(0, 1), (2, 1), (Fraction(9, 2), Fraction(-3, 2))], 0))

    def test_slopes_and_the_order_of_the_two_walls(self):
        heat = new_heat()
        for game in some_games(heat.worth.yard, 5):
            left, right = heat.walls(game)
            for some, slopes in ((left, {-1, 0}), (right, {0, 1})):
                points = some.points()
                self.assertTrue(slopes.issuperset({some.slope_at(point[0]) for point in points}))
                self.assertEqual(some.slope, 0)
            marks = [point[0] for point in left.points() + right.points()] + [dyadic(one) for one in HEATS]
            for one in marks:
                self.assertFalse(left.at(one).less(right.at(one)))
            own_heat = heat.heat(game)
            if own_heat is not None:
                self.assertTrue(left.at(own_heat).same(heat.mean(game)) and right.at(own_heat).same(heat.mean(game)))
                for one in marks:
                    if not one.less(own_heat):
                        self.assertTrue(left.at(one).same(heat.mean(game)) and right.at(one).same(heat.mean(game)))
                    elif one.less(own_heat):
                        self.assertTrue(right.at(one).less(left.at(one)))

    def test_the_stops_at_the_temperature_0(self):
        heat = new_heat()
        for game in some_games(heat.worth.yard, 6):
            left, right = heat.walls(game)
            self.assertTrue(left.at(Dyadic(0)).same(heat.worth.left_stop(game)))
            self.assertTrue(right.at(Dyadic(0)).same(heat.worth.right_stop(game)))


class OrderTest(unittest.TestCase):
    """Point 7.6."""

    def test_alike_games(self):
        heat = new_heat()
        yard = heat.worth.yard
        games = some_games(yard, 7)
        zero = heat.worth.sums.plus(heat.worth.heap(2), heat.worth.heap(2))
        for game in games:
            for other in (heat.worth.forms.simplest(game), heat.worth.sums.plus(game, zero)):
                self.assertEqual(*[[told(some) for some in heat.walls(one)] for one in (game, other)])
                self.assertTrue(heat.mean(game).same(heat.mean(other)))
                texts = [heat.heat(one) and heat.heat(one).text() for one in (game, other)]
                self.assertEqual(*texts)

    def test_games_of_which_one_is_at_least_the_other_one(self):
        heat = new_heat()
        games = some_games(heat.worth.yard, 8)
        order, pairs = heat.worth.forms.order, 0
        for one, other in itertools.product(games, repeat=2):
            if one != other and order.at_least(one, other):
                pairs += 1
                for first, second in zip(heat.walls(one), heat.walls(other)):
                    marks = [point[0] for point in first.points() + second.points()]
                    self.assertFalse(any(first.at(mark).less(second.at(mark)) for mark in marks))
                    self.assertEqual(told(highest([first, second])), told(first))
                    self.assertEqual(told(lowest([first, second])), told(second))
                self.assertFalse(heat.mean(one).less(heat.mean(other)))
        self.assertGreater(pairs, 100)

    def test_turned_games(self):
        heat = new_heat()
        yard = heat.worth.yard
        for game in some_games(yard, 9):
            turned = yard.turned(game)
            left, right = heat.walls(game)
            self.assertEqual([told(some) for some in heat.walls(turned)], [told(right.turned()), told(left.turned())])
            self.assertTrue(heat.mean(turned).same(-heat.mean(game)))
            if heat.heat(game) is None:
                self.assertIsNone(heat.heat(turned))
            else:
                self.assertTrue(heat.heat(turned).same(heat.heat(game)))


class CooledTest(unittest.TestCase):
    """Points 7.7 and 7.8."""

    def cooled_anew(self, heat, game, temperature):
        """The cooled game by the words of point 7.7, not simplified, with the options as they are."""
        yard, sums = heat.worth.yard, heat.worth.sums
        own_heat = heat.heat(game)
        if own_heat is None or fraction(own_heat) < temperature:
            return form(yard, fraction(heat.mean(game)))
        tax = form(yard, temperature)
        lefts = [sums.minus(self.cooled_anew(heat, option, temperature), tax) for option in yard.lefts(game)]
        rights = [sums.plus(self.cooled_anew(heat, option, temperature), tax) for option in yard.rights(game)]
        return yard.game(lefts, rights)

    def test_cooled_by_the_words_of_the_point(self):
        heat = new_heat()
        yard = heat.worth.yard
        chance = random.Random(10)
        unlike, alone = 0, forms_alone(yard)
        for game in some_games(yard, 11):
            own_heat = heat.heat(game)
            some = [Fraction(0), Fraction(1, 4), Fraction(1), chance.choice(HEATS)]
            if own_heat is not None:
                own_heat = fraction(own_heat)
                some += [own_heat, own_heat + Fraction(1, 4), own_heat / 2]
            for temperature in some:
                told_game = heat.cooled(game, dyadic(temperature))
                self.assertIs(type(told_game), int)
                if yard.height(game) <= 4 and temperature.denominator <= 4:
                    expected = self.cooled_anew(heat, game, temperature)
                    self.assertEqual(told_game, alone.simplest(expected))
                    unlike += told_game != heat.worth.forms.simplest(game)
                self.assertIs(heat.worth.forms.is_simplest(told_game), True)
        self.assertGreater(unlike, 50)

    def test_below_at_and_above_the_heat(self):
        heat = new_heat()
        yard, values = heat.worth.yard, heat.worth
        numbers = numbers_of_age(3)
        for high, low in itertools.product(numbers, repeat=2):
            if high > low:
                game = yard.game([form(yard, high)], [form(yard, low)])
                own_heat, mean = (high - low) / 2, (high + low) / 2
                mean_form = values.number(dyadic(mean))
                self.assertEqual(heat.cooled(game, dyadic(own_heat)), yard.game([mean_form], [mean_form])
                                 if mean == 0 else values.sums.plain([mean_form, values.heap(1)]))
                self.assertEqual(heat.cooled(game, dyadic(own_heat + Fraction(1, 32))), mean_form)
                self.assertEqual(heat.cooled(game, dyadic(own_heat + 100)), mean_form)
                below = own_heat / 2
                sides = [[values.number(dyadic(high - below))], [values.number(dyadic(low + below))]]
                self.assertEqual(heat.cooled(game, dyadic(below)), values.forms.simplest(yard.game(*sides)))

    def test_cooled_by_0(self):
        heat = new_heat()
        for game in some_games(heat.worth.yard, 12):
            self.assertEqual(heat.cooled(game, Dyadic(0)), heat.worth.forms.simplest(game))

    def test_numbers_are_not_changed(self):
        heat = new_heat()
        for number in numbers_of_age(4):
            game = heat.worth.number(dyadic(number))
            for temperature in HEATS:
                self.assertEqual(heat.cooled(game, dyadic(temperature)), game)
        self.assertEqual(heat.cooled(game, Dyadic(10 ** 12)), game)
        self.assertEqual(heat.cooled(heat.worth.yard.game([], []), Dyadic(1, 40)), 0)

    def test_games_of_heat_0(self):
        heat = new_heat()
        for game in (heat.worth.heap(1), heat.worth.heap(4), heat.worth.up(1), heat.worth.up(-3, 2)):
            self.assertEqual(heat.cooled(game, Dyadic(0)), game)
            for temperature in (Dyadic(1, 40), Dyadic(1), Dyadic(10 ** 12)):
                self.assertEqual(heat.cooled(game, temperature), 0)

    def test_cooled_by_far_temperatures_and_high_powers(self):
        heat = new_heat()
        yard, number = heat.worth.yard, heat.worth.number
        game = yard.game([number(Dyadic(3))], [number(Dyadic(-2))])
        self.assertEqual(heat.cooled(game, Dyadic(10 ** 12)), number(Dyadic(1, 1)))
        self.assertEqual(heat.cooled(game, Dyadic(10 ** 12, 38)), number(Dyadic(1, 1)))
        told_game = heat.cooled(game, Dyadic(1, 20))
        self.assertEqual(heat.worth.left_stop(told_game).text(), "3145727/1048576")
        self.assertEqual(heat.worth.right_stop(told_game).text(), "-2097151/1048576")
        self.assertEqual(heat.heat(told_game).text(), "2621439/1048576")
        # The form of 70 is out of the bounds of `number`.
        great = row_games(yard, 80)[80]
        hot = yard.game([great], [yard.turned(great)])
        self.assertEqual(heat.cooled(hot, Dyadic(70)), yard.game([number(Dyadic(10))], [number(Dyadic(-10))]))

    def test_where_cooled_games_stop_and_their_walls(self):
        heat = new_heat()
        values = heat.worth
        for game in some_games(values.yard, 13):
            left, right = heat.walls(game)
            for temperature in HEATS:
                cooled = heat.cooled(game, dyadic(temperature))
                self.assertEqual(fraction(values.left_stop(cooled)), place(left, temperature))
                self.assertEqual(fraction(values.right_stop(cooled)), place(right, temperature))
                self.assertTrue(heat.mean(cooled).same(heat.mean(game)))
                for more in HEATS:
                    self.assertEqual(place(heat.walls(cooled)[0], more), place(left, temperature + more))
                    self.assertEqual(place(heat.walls(cooled)[1], more), place(right, temperature + more))

    def test_cooled_twice(self):
        heat = new_heat()
        for game in some_games(heat.worth.yard, 14)[::2]:
            for first, second in itertools.product(HEATS[:6], repeat=2):
                once = heat.cooled(game, dyadic(first + second))
                self.assertEqual(heat.cooled(heat.cooled(game, dyadic(first)), dyadic(second)), once)

    def test_the_order_of_cooled_games(self):
        heat = new_heat()
        games = some_games(heat.worth.yard, 15)[::2]
        order = heat.worth.forms.order
        for one, other in itertools.product(games, repeat=2):
            if order.at_least(one, other):
                for temperature in HEATS[1:5]:
                    first, second = [heat.cooled(game, dyadic(temperature)) for game in (one, other)]
                    self.assertIs(order.at_least(first, second), True)
                    if order.alike(one, other):
                        self.assertEqual(first, second)

    def test_turned_games(self):
        heat = new_heat()
        yard = heat.worth.yard
        for game in some_games(yard, 16):
            for temperature in HEATS:
                cooled = heat.cooled(game, dyadic(temperature))
                self.assertEqual(heat.cooled(yard.turned(game), dyadic(temperature)), yard.turned(cooled))

    def test_temperatures_below_0(self):
        heat = new_heat()
        games = some_games(heat.worth.yard, 17, 5)
        for temperature in (Dyadic(-1), Dyadic(-1, 40), Dyadic(-(10 ** 12)), Dyadic(-5, 1)):
            for game in games + [-1, heat.worth.yard.size, 10 ** 30]:
                size = heat.worth.yard.size
                with self.assertRaises(BadValue):
                    heat.cooled(game, temperature)
                self.assertEqual(heat.worth.yard.size, size)


class SumsTest(unittest.TestCase):
    """Points 7.9 and 7.10."""

    def great_heat(self, heat, games):
        """The greatest heat of the games that are not numbers, or None."""
        heats = [fraction(heat.heat(game)) for game in games if heat.heat(game) is not None]
        return max(heats, default=None)

    def test_walls_means_and_heats_of_sums(self):
        heat = new_heat()
        values = heat.worth
        games = small_games(values.yard, 18)
        for one, other in itertools.combinations_with_replacement(games, 2):
            total = values.sums.plus(one, other)
            walls, first, second = heat.walls(total), heat.walls(one), heat.walls(other)
            for temperature in HEATS:
                left, right = [place(some, temperature) for some in walls]
                one_left, one_right = [place(some, temperature) for some in first]
                other_left, other_right = [place(some, temperature) for some in second]
                crossed = [one_left + other_right, one_right + other_left]
                self.assertTrue(one_right + other_right <= right <= min(crossed))
                self.assertTrue(max(crossed) <= left <= one_left + other_left)
            self.assertEqual(fraction(heat.mean(total)), fraction(heat.mean(one)) + fraction(heat.mean(other)))
            if heat.heat(total) is not None:
                self.assertLessEqual(fraction(heat.heat(total)), self.great_heat(heat, [one, other]))

    def test_cooled_sums(self):
        heat = new_heat()
        values = heat.worth
        games = small_games(values.yard, 19)
        for one, other in itertools.combinations(games, 2):
            total = values.sums.plus(one, other)
            for temperature in HEATS[1:5]:
                parts = [heat.cooled(game, dyadic(temperature)) for game in (one, other)]
                self.assertEqual(heat.cooled(total, dyadic(temperature)), values.sums.plain(parts))

    def test_the_stops_of_sums(self):
        heat = new_heat()
        values = heat.worth
        games = small_games(values.yard, 20)
        chance = random.Random(21)
        for _ in range(120):
            some = chance.sample(games, chance.randint(0, 3))
            total = values.sums.plain(some)
            means = sum(fraction(heat.mean(game)) for game in some)
            most = self.great_heat(heat, some) or 0
            left, right = fraction(values.left_stop(total)), fraction(values.right_stop(total))
            self.assertTrue(means <= left <= means + most)
            self.assertTrue(means - most <= right <= means)

    def test_copies(self):
        heat = new_heat()
        values = heat.worth
        order, sides = values.forms.order, set()
        for game in small_games(values.yard, 22):
            mean, own_heat = fraction(heat.mean(game)), self.great_heat(heat, [game]) or 0
            for count in (1, 2, 3, 8, 20):
                total = values.sums.plain([game] * count)
                self.assertLessEqual(fraction(values.left_stop(total)), count * mean + own_heat)
                self.assertGreaterEqual(fraction(values.right_stop(total)), count * mean - own_heat)
                self.assertEqual(fraction(heat.mean(total)), count * mean)
                if count * mean > own_heat:
                    sides.add(order.outcome(total))
                    self.assertEqual(order.outcome(total), "left")
                elif count * mean < -own_heat:
                    sides.add(order.outcome(total))
                    self.assertEqual(order.outcome(total), "right")
            twice = values.sums.copies(game, 2)
            self.assertEqual(fraction(heat.mean(twice)), 2 * mean)
        self.assertEqual(sides, {"left", "right"})


class AskedTest(unittest.TestCase):
    """Points 0.4 to 0.6: no answer depends on what was asked or done earlier."""

    def answers(self, heat, games):
        found = {}
        for game in games:
            own_heat = heat.heat(game)
            found[game] = ([told(some) for some in heat.walls(game)], own_heat and own_heat.text(),
                           heat.mean(game).text())
        return found

    def test_asked_in_different_orders_and_again(self):
        heat = new_heat()
        games = some_games(heat.worth.yard, 23)
        expected = self.answers(heat, games)
        cooled = {game: heat.cooled(game, Dyadic(1, 1)) for game in games}
        chance = random.Random(24)
        for _ in range(2):
            chance.shuffle(games)
            for other in (heat, Heat(heat.worth), Heat(Values(Sums(Forms(Order(heat.worth.yard)))))):
                for game in games:
                    self.assertEqual(other.cooled(game, Dyadic(1, 1)), cooled[game])
                    other.cooled(game, chance.choice([Dyadic(0), Dyadic(1), Dyadic(1, 2)]))
                self.assertEqual(self.answers(other, games), expected)
        for game in games[::7]:
            self.assertEqual(Heat(heat.worth).cooled(game, Dyadic(1, 1)), cooled[game])
            self.assertEqual(self.answers(Heat(heat.worth), [game])[game], expected[game])

    def test_lists_that_were_told_may_be_changed(self):
        heat = new_heat()
        games = some_games(heat.worth.yard, 25)
        expected = self.answers(heat, games)
        for game in games:
            for some in heat.walls(game):
                some.points().clear()
                listed = some.points()
                listed.append(listed[0])
            self.assertIs(type(heat.walls(game)), tuple)
        self.assertEqual(self.answers(heat, games), expected)

    def test_two_yards_by_turns(self):
        first, second, alone = new_heat(), new_heat(), new_heat()
        games = some_games(first.worth.yard, 26)
        others = some_games(second.worth.yard, 27)
        some_games(alone.worth.yard, 26)
        expected = self.answers(alone, games)
        for one, other in zip(games, others):
            second.walls(other), second.cooled(other, Dyadic(1))
            self.assertEqual(self.answers(first, [one])[one], expected[one])

    def test_unknown_numbers(self):
        heat = new_heat()
        some_games(heat.worth.yard, 28, 5)
        for number in unknown_numbers(heat.worth.yard):
            for ask in (heat.walls, heat.heat, heat.mean):
                with self.assertRaises(Unknown):
                    ask(number)
            for temperature in (Dyadic(0), Dyadic(1), Dyadic(10 ** 12)):
                with self.assertRaises(Unknown):
                    heat.cooled(number, temperature)

    def test_a_number_is_known_once_its_game_is_made(self):
        values = Values(Sums(Forms(Order(Yard()))))
        heat = Heat(values)
        with self.assertRaises(Unknown):
            heat.mean(1)
        self.assertEqual(values.yard.game([0], []), 1)
        self.assertEqual(heat.mean(1).text(), "1")
        self.assertIs(heat.worth, values)


class GreatGamesTest(unittest.TestCase):
    """Point 0.5: high games, and games with many followers that are reached on many ways."""

    def hot_game(self, yard, numbers, chance, depth, middle, span):
        """A game in which each move gains something."""
        if depth == 0:
            return numbers[max(-50, min(50, middle))]
        sides = []
        for way in (1, -1):
            middles = [middle + way * chance.randint(span // 2, span) for _ in range(2)]
            sides.append([self.hot_game(yard, numbers, chance, depth - 1, one, max(1, span * 3 // 4)) for one in middles])
        return yard.game(*sides)

    def test_hot_games_of_many_followers(self):
        heat = new_heat()
        yard = heat.worth.yard
        with soon():
            numbers = {size: heat.worth.number(Dyadic(size)) for size in range(-50, 51)}
            game = self.hot_game(yard, numbers, random.Random(29), 6, 0, 12)
            self.assertGreater(len(yard.followers(game)), 700)
            left, right = heat.walls(game)
            self.assertTrue(left.at(Dyadic(0)).same(heat.worth.left_stop(game)))
            self.assertTrue(right.at(Dyadic(0)).same(heat.worth.right_stop(game)))
            for temperature in (Dyadic(0), Dyadic(1), Dyadic(7, 1), heat.heat(game)):
                cooled = heat.cooled(game, temperature)
                self.assertTrue(heat.worth.left_stop(cooled).same(left.at(temperature)))
                self.assertTrue(heat.worth.right_stop(cooled).same(right.at(temperature)))

    def test_high_games(self):
        heat = new_heat()
        yard = heat.worth.yard
        with soon():
            rows = row_games(yard, 100), row_games(yard, 99, "right")
            self.assertEqual(heat.mean(rows[0][100]).text(), "100")
            switch = yard.game([rows[0][99]], [rows[1][99]])
            self.assertEqual((heat.mean(switch).text(), heat.heat(switch).text()), ("0", "99"))
            self.assertEqual(heat.cooled(switch, Dyadic(99)), heat.worth.heap(1))
            for game in zigzag_games(yard, 100):
                self.assertIsNone(heat.heat(game))
            heaps, ladder = heap_games(yard, 100), ladder_games(yard, 100)
            self.assertEqual((heat.mean(heaps[100]).text(), heat.heat(heaps[100]).text()), ("0", "0"))
            for game in ladder[::9]:
                self.assertFalse(heat.worth.left_stop(game).less(heat.mean(game)))
            # Threats within threats: each has the one before as its left option, and less to its right.
            games = [yard.game([rows[0][40]], [0])]
            for size in range(1, 50):
                games.append(yard.game([games[-1]], [rows[1][size]]))
            left, right = heat.walls(games[-1])
            self.assertTrue(left.at(Dyadic(0)).same(heat.worth.left_stop(games[-1])))
            self.assertTrue(right.at(Dyadic(0)).same(heat.worth.right_stop(games[-1])))

    def test_tiles_and_sums(self):
        heat = new_heat()
        values = heat.worth
        yard = values.yard
        with soon():
            corner = tile_games(yard, 50, 50)[49, 49]
            left, right = heat.walls(corner)
            self.assertTrue(left.at(Dyadic(0)).same(values.left_stop(corner)))
            switch = yard.game([values.number(Dyadic(1))], [values.number(Dyadic(-1))])
            many = values.sums.copies(switch, 49)
            self.assertEqual((heat.mean(many).text(), heat.heat(many).text()), ("0", "1"))
            self.assertEqual(heat.cooled(many, Dyadic(1)), values.heap(1))
            mixed = mixed_games(yard, random.Random(30), 80)
            for game in mixed[-10:]:
                self.assertFalse(heat.walls(game)[0].at(Dyadic(0)).less(heat.walls(game)[1].at(Dyadic(0))))


if __name__ == "__main__":
    unittest.main()

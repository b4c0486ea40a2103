"""Points 6.1 to 6.9: numbers, heaps and stops."""

import itertools
import random
import unittest
from fractions import Fraction

from sumsplay.dyadic import Dyadic
from sumsplay.errors import BadValue, Unknown
from sumsplay.forms import Forms
from sumsplay.order import Order
from sumsplay.sums import Sums
from sumsplay.values import Values
from sumsplay.yard import Yard
from tests.anew import SIDES, Anew, age, dyadic, form, forms_alone, fraction, new_values, numbers_of_age
from tests.worked import (
    heap_games, ladder_games, low_games, mixed_games, odd_things, row_games, shape, soon, tile_games, unknown_numbers,
    zigzag_games)

NO_SIZES = (-1, 41, -2, 42, 1000, -1000, 10 ** 30, -(10 ** 30), 10 ** 5000, "0", "", "1")
NO_UPS = (13, -13, 14, 100, 10 ** 30, -(10 ** 30), 10 ** 5000, "0", "", "1")


def told_number(values, game):
    """The number of a game as a Fraction, or None."""
    told = values.number_of(game)
    return None if told is None else fraction(told)


def some_games(yard, seed, count=60):
    """Games of all sorts of a height of at most 4, numbers and hot games among them."""
    chance = random.Random(seed)
    numbers = [form(yard, number) for number in numbers_of_age(3)]
    hot = [yard.game(chance.sample(numbers, chance.randint(1, 2)), chance.sample(numbers, chance.randint(1, 2)))
           for _ in range(count // 3)]
    # Games with several options on a side that are apart and stop at unlike numbers.
    hot = hot + [yard.game([chance.choice(hot), chance.choice(hot + numbers)],
                           [chance.choice(hot), chance.choice(hot + numbers)]) for _ in range(count // 3)]
    hot = [game for game in hot if yard.height(game) <= 5]
    mixed = [game for game in mixed_games(yard, chance, 80) if yard.height(game) <= 4]
    low = low_games(yard)
    return sorted(set(chance.sample(numbers, 8) + hot + chance.sample(low, count // 3) + mixed[:count // 3]))


class NumberTest(unittest.TestCase):
    """Points 6.1 to 6.4."""

    def test_forms_by_the_words_of_the_point(self):
        values = new_values()
        yard = values.yard
        for number in numbers_of_age(7):
            game = values.number(dyadic(number))
            self.assertIs(type(game), int)
            self.assertEqual(game, form(yard, number))
            self.assertEqual(yard.height(game), age(number))
            self.assertEqual(yard.height(game), dyadic(number).age())
            self.assertIs(values.forms.is_simplest(game), True)
            self.assertEqual(yard.turned(game), values.number(dyadic(-number)))

    def test_integers(self):
        values = new_values()
        yard = values.yard
        rows = row_games(yard, 64), row_games(yard, 64, "right")
        for size in range(-64, 65):
            self.assertEqual(values.number(Dyadic(size)), rows[size < 0][abs(size)])
            self.assertEqual(values.number(Dyadic(4 * size, 2)), rows[size < 0][abs(size)])

    def test_options_all_through(self):
        values = new_values()
        yard = values.yard
        chance = random.Random(1)
        numbers = [Fraction(chance.randint(-64 * 4096, 64 * 4096), 4096) for _ in range(60)]
        numbers += [Fraction(top, 4096) for top in (1, -1, 64 * 4096 - 1, -64 * 4096 + 1)]
        for number in numbers:
            game = values.number(dyadic(number))
            self.assertEqual(yard.height(game), age(number))
            self.assertIs(values.forms.is_simplest(game), True)
            self.assertEqual(told_number(values, game), number)
            for follower in yard.followers(game):
                inner = told_number(values, follower)
                self.assertEqual(follower, form(yard, inner))
                step = Fraction(1, inner.denominator)
                sides = [[told_number(values, option) for option in yard.options(follower, side)] for side in SIDES]
                if inner.denominator == 1:
                    expected = [[inner - 1] if inner > 0 else [], [inner + 1] if inner < 0 else []]
                    self.assertEqual(sides, expected)
                else:
                    self.assertEqual(sides, [[inner - step], [inner + step]])

    def test_the_bounds(self):
        values = new_values()
        for number in (64, -64, Fraction(1, 4096), Fraction(-1, 4096), 64 - Fraction(1, 4096), Fraction(1, 4096) - 64):
            game = values.number(dyadic(number))
            self.assertEqual(told_number(values, game), number)
            self.assertEqual(values.yard.height(game), age(number))
        self.assertEqual(values.number(Dyadic(64 * 2 ** 20, 20)), values.number(Dyadic(64)))

    def test_numbers_out_of_the_bounds(self):
        values = new_values()
        passed = [Dyadic(65), Dyadic(-65), Dyadic(129, 1), Dyadic(-129, 1), Dyadic(64 * 4096 + 1, 12),
                  Dyadic(-64 * 4096 - 1, 12), Dyadic(10 ** 12), Dyadic(-(10 ** 12)), Dyadic(10 ** 12 - 1, 1)]
        passed += [Dyadic(top, power) for power in range(13, 41) for top in (1, -1, 5, 2 ** power + 1)
                   if top < 10 ** 12]
        for number in passed:
            size = values.yard.size
            with self.assertRaises(BadValue):
                values.number(number)
            self.assertEqual(values.yard.size, size)

    def test_the_order_of_numbers(self):
        values = new_values()
        order = values.sums.forms.order
        numbers = numbers_of_age(4)
        games = [values.number(dyadic(number)) for number in numbers]
        for one, other in itertools.product(range(len(numbers)), repeat=2):
            self.assertIs(order.at_least(games[one], games[other]), one >= other)

    def test_sums_and_negatives(self):
        values = new_values()
        sums = values.sums
        numbers = numbers_of_age(3)
        for one, other in itertools.product(numbers, repeat=2):
            first, second = values.number(dyadic(one)), values.number(dyadic(other))
            self.assertEqual(told_number(values, sums.plus(first, second)), one + other)
            self.assertEqual(told_number(values, sums.minus(first, second)), one - other)
            self.assertEqual(sums.plain([first, second]), values.number(dyadic(one + other)))

    def test_greater_sums(self):
        values = new_values()
        chance = random.Random(2)
        for _ in range(60):
            some = [Fraction(chance.randint(-80, 80), 2 ** chance.randint(0, 5)) for _ in range(3)]
            some = [number for number in some if abs(number) <= 20]
            games = [values.number(dyadic(number)) for number in some]
            self.assertEqual(told_number(values, values.sums.plain(games)), sum(some))

    def test_number_of_by_the_words_of_the_point(self):
        for seed in (3, 4):
            values = new_values()
            games = some_games(values.yard, seed)
            anew = Anew(values.yard)
            found = set()
            for game in games:
                expected = anew.number_of(game)
                self.assertEqual(told_number(values, game), expected)
                found.add(expected is None)
                if expected is not None:
                    self.assertIs(type(values.number_of(game)), Dyadic)
                    self.assertEqual(values.forms.simplest(game), values.number(dyadic(expected)))
            self.assertEqual(found, {True, False})

    def test_all_low_games(self):
        values = new_values()
        games = low_games(values.yard)
        anew = Anew(values.yard)
        for game in games:
            self.assertEqual(told_number(values, game), anew.number_of(game))

    def test_games_whose_options_are_numbers(self):
        values = new_values()
        yard = values.yard
        chance = random.Random(5)
        numbers = numbers_of_age(4)
        aged = sorted(numbers_of_age(7), key=lambda number: (age(number), number))
        kinds = set()
        for _ in range(400):
            lefts = chance.sample(numbers, chance.randint(0, 3))
            rights = chance.sample(numbers, chance.randint(0, 3))
            if chance.random() < 0.6:
                middle = chance.choice(numbers)
                lefts = [number for number in lefts if number < middle]
                rights = [number for number in rights if number >= middle]
            sides = [[values.number(dyadic(number)) for number in some] for some in (lefts, rights)]
            told = told_number(values, yard.game(*sides))
            if all(low < high for low in lefts for high in rights):
                fits = [number for number in aged if all(low < number for low in lefts)
                        and all(number < high for high in rights)]
                self.assertEqual(told, fits[0])
            else:
                self.assertIsNone(told)
            kinds.add((told is None, bool(lefts), bool(rights)))
        self.assertEqual(len(kinds), 5)

    def test_some_left_one_is_not_less_than_some_right_one(self):
        values = new_values()
        yard = values.yard
        one, two = values.number(Dyadic(1)), values.number(Dyadic(2))
        for lefts, rights in (([one], [one]), ([two], [one]), ([0, two], [one, two]), ([0], [0, one]), ([0, one], [one])):
            self.assertIsNone(values.number_of(yard.game(lefts, rights)))

    def test_numbers_among_whose_options_are_none(self):
        values = new_values()
        yard = values.yard
        star = values.heap(1)
        self.assertEqual(told_number(values, yard.game([star], [star])), 0)
        self.assertEqual(told_number(values, yard.game([star], [])), 0)
        self.assertEqual(told_number(values, yard.game([yard.game([0], [star])], [values.number(Dyadic(1))])), Fraction(1, 2))
        switch = yard.game([values.number(Dyadic(1))], [values.number(Dyadic(-1))])
        self.assertIsNone(values.number_of(switch))
        self.assertEqual(told_number(values, yard.game([switch], [])), 0)
        self.assertIsNone(values.number_of(star))

    def test_numbers_that_are_made_by_hand(self):
        values = new_values()
        yard = values.yard
        one = yard.game([0], [])
        three = yard.game([yard.game([one], []), one, 0], [])
        self.assertEqual(told_number(values, three), 3)
        self.assertEqual(told_number(values, yard.game([0, one], [three])), 2)
        self.assertEqual(told_number(values, yard.game([], [three])), 0)
        self.assertEqual(told_number(values, yard.turned(three)), -3)
        self.assertEqual(values.number(Dyadic(3)), values.forms.simplest(three))


class HeapTest(unittest.TestCase):
    """Point 6.5."""

    def test_heaps_of_each_size(self):
        values = new_values()
        yard = values.yard
        expected = heap_games(yard, 40)
        for size in (40, *range(41), 7):
            game = values.heap(size)
            self.assertEqual(game, expected[size])
            self.assertEqual(yard.lefts(game), sorted(expected[:size]))
            self.assertEqual(yard.rights(game), sorted(expected[:size]))
            self.assertEqual(values.heap_of(game), size)
            self.assertIs(type(values.heap_of(game)), int)
            self.assertIs(values.forms.is_simplest(game), True)

    def test_sizes_that_are_none(self):
        values = new_values()
        for size in (*NO_SIZES, *odd_things()):
            kept = values.yard.size
            with self.assertRaises(BadValue):
                values.heap(size)
            self.assertEqual(values.yard.size, kept)

    def test_sums_of_two_heaps(self):
        values = new_values()
        for one, other in itertools.product(range(0, 41, 5), range(0, 41, 3)):
            told = values.heap_of(values.sums.plus(values.heap(one), values.heap(other)))
            self.assertEqual(told, one ^ other if one ^ other <= 40 else None)

    def test_heaps_above_the_bound(self):
        values = new_values()
        heaps = heap_games(values.yard, 50)
        for size, game in enumerate(heaps):
            self.assertEqual(values.heap_of(game), size if size <= 40 else None)

    def test_games_whose_options_are_heaps(self):
        values = new_values()
        yard, chance = values.yard, random.Random(6)
        for _ in range(150):
            sizes = [chance.randint(0, 7) for _ in range(chance.randint(0, 6))]
            least = min(set(range(8)) - set(sizes))
            # Each heap is taken as it is, or as the sum of two.
            sides = []
            for _ in SIDES:
                parts = [chance.choice((0, 1, 2)) for _ in sizes]
                sides.append([values.sums.plus(values.heap(size ^ part), values.heap(part))
                              for size, part in zip(sizes, parts)])
            self.assertEqual(values.heap_of(yard.game(*sides)), least)

    def test_heap_of_against_the_order(self):
        values = new_values()
        games = some_games(values.yard, 7) + low_games(values.yard)
        anew = Anew(values.yard)
        found = set()
        for game in games:
            fits = [size for size in range(values.yard.height(game) + 1) if anew.alike(game, values.heap(size))]
            told = values.heap_of(game)
            self.assertEqual(told, fits[0] if fits else None)
            found.add(told)
        self.assertTrue(found.issuperset({0, 1, 2, None}))

    def test_games_that_are_no_heaps(self):
        values = new_values()
        yard = values.yard
        one, star = values.number(Dyadic(1)), values.heap(1)
        for game in (one, yard.turned(one), yard.game([0], [star]), yard.game([star], [0]), yard.game([one], [star]),
                     values.up(1), values.number(Dyadic(1, 1)), yard.game([0, star], [0]), yard.game([0], [0, star]),
                     yard.game([0, one], [0, yard.turned(one)])):
            self.assertIsNone(values.heap_of(game))
        self.assertEqual(values.heap_of(0), 0)
        self.assertEqual(values.heap_of(yard.game([yard.turned(one)], [one])), 0)


class UpTest(unittest.TestCase):
    """Points 6.6 and 6.9."""

    def test_up_by_the_words_of_the_point(self):
        values = new_values()
        yard, sums = values.yard, values.sums
        up, alone = yard.game([0], [values.heap(1)]), forms_alone(yard)
        self.assertEqual(values.up(1), up)
        for count in range(-12, 13):
            for size in range(4):
                told = values.up(count, size)
                expected = sums.plus(sums.copies(up, count), values.heap(size))
                self.assertEqual(told, alone.simplest(expected))
                self.assertIs(type(told), int)
            self.assertEqual(values.up(count), values.up(count, 0))

    def test_all_counts_and_sizes(self):
        values = new_values()
        order = values.forms.order
        for count, size in itertools.product(range(-12, 13), range(41)):
            game = values.up(count, size)
            if count:
                self.assertIsNone(values.heap_of(game))
                self.assertIsNone(values.number_of(game))
                side = "left" if count > 0 else "right"
                self.assertEqual(order.outcome(game), "first" if (abs(count), size) == (1, 1) else side)
            else:
                self.assertEqual(game, values.heap(size))
            self.assertIs(values.forms.is_simplest(game), True)
            self.assertIs(values.is_small(game), True)
            self.assertEqual(values.yard.turned(game), values.up(-count, size))

    def test_sums_of_ups(self):
        values = new_values()
        for count, other in itertools.product(range(-6, 7), repeat=2):
            told = values.sums.plain([values.up(count, 1), values.up(other, 3)])
            self.assertEqual(told, values.up(count + other, 2))
        self.assertEqual(values.sums.plain([values.up(12, 40), values.up(-12, 9)]), values.heap(40 ^ 9))
        self.assertEqual(values.up(size=2, count=3), values.up(3, 2))

    def test_arguments_that_are_none(self):
        values = new_values()
        for other in (0, 1, -12, 12):
            for thing in (*NO_UPS, *odd_things()):
                self.refused(values, thing, abs(other))
                self.refused(values, thing)
            for thing in (*NO_SIZES, *odd_things()):
                self.refused(values, other, thing)
        self.refused(values, 13, 41)
        self.refused(values, None, None)

    def refused(self, values, *passed):
        kept = values.yard.size
        with self.assertRaises(BadValue):
            values.up(*passed)
        self.assertEqual(values.yard.size, kept)

    def test_small_games_by_the_words_of_the_point(self):
        values = new_values()
        order = values.forms.order
        tiny = Fraction(1, 4096)
        games = some_games(values.yard, 8) + low_games(values.yard)[::3]
        found = set()
        for game in games:
            below, above = values.number(dyadic(-tiny)), values.number(dyadic(tiny))
            told = values.is_small(game)
            self.assertIs(told, order.less(below, game) and order.less(game, above))
            self.assertIs(told, values.left_stop(game).top == 0 and values.right_stop(game).top == 0)
            found.add(told)
        self.assertEqual(found, {True, False})

    def test_games_that_are_not_small(self):
        values = new_values()
        yard = values.yard
        one = values.number(Dyadic(1))
        for game in (one, yard.turned(one), yard.game([one], [0]), yard.game([0], [yard.turned(one)]),
                     yard.game([one], [yard.turned(one)]), values.number(Dyadic(1, 12))):
            self.assertIs(values.is_small(game), False)
        for game in (0, values.heap(5), values.up(3, 1), yard.game([0], [yard.game([0], [yard.turned(one)])])):
            self.assertIs(values.is_small(game), True)


class StopsTest(unittest.TestCase):
    """Points 6.7 and 6.8."""

    def stops(self, values, game):
        return fraction(values.left_stop(game)), fraction(values.right_stop(game))

    def test_stops_by_the_words_of_the_point(self):
        unlike = set()
        for seed in (9, 10):
            values = new_values()
            games = some_games(values.yard, seed) + low_games(values.yard)[::5]
            anew = Anew(values.yard)
            for game in games:
                told = self.stops(values, game)
                self.assertEqual(told, anew.stops(game))
                self.assertGreaterEqual(*told)
                unlike.add(told)
        self.assertGreater(len(unlike), 20)

    def test_named_stops(self):
        values = new_values()
        yard = values.yard
        number = [values.number(Dyadic(size)) for size in range(9)]
        switch = yard.game([number[5]], [yard.turned(number[2])])
        self.assertEqual(self.stops(values, switch), (5, -2))
        below = yard.game([number[8]], [switch])
        self.assertEqual(self.stops(values, below), (8, 5))
        # Right moves first in `below` to the switch, left answers there.
        self.assertEqual(self.stops(values, yard.game([below, number[3]], [0])), (5, 0))
        self.assertEqual(self.stops(values, yard.game([number[1]], [number[1]])), (1, 1))
        for size in (1, 4):
            # The stop of this option is 2: the other one is better if it is 4, and worse if it is 1.
            threat = yard.game([number[8]], [number[2]])
            game = yard.game([threat, number[size]], [yard.turned(number[7])])
            self.assertEqual(len(yard.lefts(values.forms.simplest(game))), 2 if size == 4 else 1)
            self.assertEqual(self.stops(values, game), (max(2, size), -7))
            self.assertEqual(self.stops(values, yard.turned(game)), (7, -max(2, size)))
        self.assertIs(type(values.left_stop(switch)), Dyadic)
        self.assertIs(type(values.right_stop(switch)), Dyadic)

    def test_options_that_are_apart(self):
        for sizes in (((8, 2), (7, 4)), ((7, 4), (8, 2))):
            values = new_values()
            yard = values.yard
            number = [values.number(Dyadic(size)) for size in range(9)]
            threats = [yard.game([number[high]], [number[low]]) for high, low in sizes]
            game = yard.game(threats, [yard.turned(one) for one in threats])
            self.assertEqual(values.forms.simplest(game), game)
            self.assertEqual(self.stops(values, game), (4, -4))
            # The other side answers in the one that is worse for it to leave.
            self.assertEqual(self.stops(values, yard.game([game, number[1]], [0])), (1, 0))

    def test_stops_of_numbers_and_of_turned_games(self):
        values = new_values()
        for number in numbers_of_age(4):
            self.assertEqual(self.stops(values, values.number(dyadic(number))), (number, number))
        for game in some_games(values.yard, 11):
            left, right = self.stops(values, game)
            self.assertEqual(self.stops(values, values.yard.turned(game)), (-right, -left))
            self.assertEqual(self.stops(values, values.forms.simplest(game)), (left, right))

    def test_the_numbers_beside_the_stops(self):
        values = new_values()
        order = values.forms.order
        numbers = numbers_of_age(3)
        for game in some_games(values.yard, 12, 40):
            left, right = self.stops(values, game)
            for number in numbers + [left + Fraction(1, 64), right - Fraction(1, 64)]:
                other = values.number(dyadic(number))
                if number < right:
                    self.assertIs(order.less(other, game), True)
                elif number > left:
                    self.assertIs(order.less(game, other), True)
                elif right < number < left:
                    self.assertIs(order.apart(game, other), True)

    def test_stops_of_sums(self):
        values = new_values()
        games = some_games(values.yard, 13, 40)
        for one, other in itertools.product(games, repeat=2):
            first, second = self.stops(values, one), self.stops(values, other)
            left, right = self.stops(values, values.sums.plus(one, other))
            self.assertGreaterEqual(right, first[1] + second[1])
            self.assertLessEqual(left, first[0] + second[0])
            self.assertGreaterEqual(left, first[0] + second[1])
            number = told_number(values, other)
            if number is not None:
                self.assertEqual((left, right), (first[0] + number, first[1] + number))


class AskedTest(unittest.TestCase):
    """Points 0.4 to 0.6: no answer depends on what was asked or done earlier."""

    def answers(self, values, questions):
        found = {}
        for word, passed in questions:
            told = getattr(values, word)(*passed)
            if isinstance(told, Dyadic):
                told = told.text()
            elif word in ("heap", "up", "number"):
                told = shape(values.yard, told)
            found[word, passed] = told
        return found

    def test_asked_in_different_orders_and_again(self):
        values = new_values()
        games = some_games(values.yard, 14)
        words = ("number_of", "heap_of", "left_stop", "right_stop", "is_small")
        questions = [(word, (game,)) for word in words for game in games]
        questions += [("heap", (size,)) for size in range(9)]
        questions += [("up", (count, size)) for count in range(-3, 4) for size in range(3)]
        expected = self.answers(values, questions)
        chance = random.Random(15)
        for _ in range(3):
            chance.shuffle(questions)
            fresh = new_values()
            self.assertEqual(some_games(fresh.yard, 14), games)
            for other in (values, Values(values.sums), fresh):
                self.assertEqual(self.answers(other, questions), expected)

    def test_two_yards_by_turns(self):
        first, second, alone = new_values(), new_values(), new_values()
        games = some_games(first.yard, 16)
        others = some_games(second.yard, 17)
        some_games(alone.yard, 16)
        for one, other in zip(games, others):
            second.number_of(other), second.left_stop(other), second.heap(5), second.up(2, 1)
            told = [told_number(first, one), first.left_stop(one).text(), first.heap_of(one)]
            self.assertEqual(told, [told_number(alone, one), alone.left_stop(one).text(), alone.heap_of(one)])

    def test_unknown_numbers(self):
        values = new_values()
        some_games(values.yard, 18)
        for number in unknown_numbers(values.yard):
            for ask in (values.number_of, values.heap_of, values.left_stop, values.right_stop, values.is_small):
                with self.assertRaises(Unknown):
                    ask(number)

    def test_a_number_is_known_once_its_game_is_made(self):
        values = new_values()
        with self.assertRaises(Unknown):
            values.number_of(1)
        self.assertEqual(values.yard.game([0], []), 1)
        self.assertEqual(told_number(values, 1), 1)

    def test_the_sums_the_forms_and_the_yard(self):
        sums = Sums(Forms(Order(Yard())))
        values = Values(sums)
        self.assertIs(values.sums, sums)
        self.assertIs(values.forms, sums.forms)
        self.assertIs(values.yard, sums.yard)


class GreatGamesTest(unittest.TestCase):
    """Point 0.5: high games, and games with many followers that are reached on many ways."""

    def test_high_games(self):
        values = new_values()
        yard = values.yard
        with soon():
            for size, game in enumerate(row_games(yard, 100)):
                self.assertEqual(told_number(values, game), size)
                self.assertEqual(fraction(values.left_stop(game)), size)
                self.assertEqual(values.heap_of(game), None if size else 0)
            for game in zigzag_games(yard, 100):
                self.assertEqual(told_number(values, game), yard.height(game) % 2)
            heaps = heap_games(yard, 100)
            self.assertIsNone(values.heap_of(heaps[100]))
            self.assertEqual(values.heap_of(yard.game(heaps[:30] + heaps[31:], heaps[:30] + heaps[32:])), 30)
            self.assertIs(values.is_small(heaps[100]), True)
            ladder = ladder_games(yard, 100)
            for game in ladder[::7]:
                self.assertGreaterEqual(fraction(values.left_stop(game)), fraction(values.right_stop(game)))

    def test_numbers_in_between(self):
        values = new_values()
        yard = values.yard
        with soon():
            # By turns between the last two, which leads to thirds but never there.
            games, numbers = [0, yard.game([0], [])], [Fraction(0), Fraction(1)]
            for _ in range(38):
                low, high = sorted((-1, -2), key=lambda at: numbers[at])
                games.append(yard.game([games[low]], [games[high]]))
                numbers.append((numbers[-1] + numbers[-2]) / 2)
            for game, number in zip(games, numbers):
                self.assertEqual(told_number(values, game), number)

    def test_tiles_and_sums(self):
        values = new_values()
        yard = values.yard
        with soon():
            games = tile_games(yard, 50, 50)
            corner = games[49, 49]
            self.assertGreaterEqual(fraction(values.left_stop(corner)), fraction(values.right_stop(corner)))
            self.assertEqual(values.is_small(corner), values.left_stop(corner).top == values.right_stop(corner).top == 0)
            heaps = values.sums.total([values.heap(30), values.heap(21), values.heap(40)])
            self.assertEqual(values.heap_of(heaps), 30 ^ 21 ^ 40)
            self.assertIs(values.is_small(heaps), True)
            switch = yard.game([values.number(Dyadic(1))], [values.number(Dyadic(-1))])
            many = values.sums.copies(switch, 50)
            self.assertEqual(told_number(values, many), 0)
            odd = values.sums.copies(switch, 49)
            self.assertEqual((values.left_stop(odd).text(), values.right_stop(odd).text()), ("1", "-1"))


if __name__ == "__main__":
    unittest.main()

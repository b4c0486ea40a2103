"""Points 5.1 to 5.6: sums, copies and company."""

import itertools
import random
import unittest

from sumsplay.errors import BadValue, Unknown
from sumsplay.forms import Forms
from sumsplay.order import Order
from sumsplay.sums import Sums
from sumsplay.yard import Yard
from tests.anew import SIDES, Anew, forms_alone
from tests.worked import (
    beside, heap_games, ladder_games, low_games, mixed_games, odd_things, row_games, shape, soon, unknown_numbers)

NO_COUNTS = (65, -65, 66, -66, 100, -1000, 10 ** 30, -(10 ** 30), 10 ** 5000, "1", "", "left", b"1")


def new_sums():
    return Sums(Forms(Order(Yard())))


def some_games(yard, seed, count=24):
    """Games of all sorts of a height of at most 4."""
    chance = random.Random(seed)
    games = low_games(yard) + mixed_games(yard, chance, 60)
    games = [game for game in set(games) if yard.height(game) <= 4]
    return [0, yard.game([0], []), yard.game([0], [0])] + chance.sample(sorted(games), count - 3)


class PlusTest(unittest.TestCase):
    """Points 5.1 to 5.3."""

    def test_plus_by_the_words_of_the_point(self):
        sums = new_sums()
        yard = sums.yard
        games = some_games(yard, 1)
        for one, other in itertools.product(games, repeat=2):
            told = sums.plus(one, other)
            self.assertEqual(told, beside(yard, one, other))
            for side in SIDES:
                expected = {sums.plus(option, other) for option in yard.options(one, side)}
                expected |= {sums.plus(one, option) for option in yard.options(other, side)}
                self.assertEqual(yard.options(told, side), sorted(expected))
            self.assertEqual(sums.plus(other, one), told)
            self.assertEqual(yard.height(told), yard.height(one) + yard.height(other))
            self.assertIs(type(told), int)

    def test_plus_0(self):
        sums = new_sums()
        for game in some_games(sums.yard, 2):
            self.assertEqual(sums.plus(game, 0), game)
            self.assertEqual(sums.plus(0, game), game)
            self.assertEqual(sums.minus(game, 0), game)
            self.assertEqual(sums.minus(0, game), sums.yard.turned(game))

    def test_minus(self):
        sums = new_sums()
        yard = sums.yard
        games = some_games(yard, 3)
        for one, other in itertools.product(games, repeat=2):
            told = sums.minus(one, other)
            self.assertEqual(told, beside(yard, one, yard.turned(other)))
            self.assertEqual(sums.minus(other, one), yard.turned(told))

    def test_sums_turned(self):
        sums = new_sums()
        yard = sums.yard
        for one, other in itertools.product(some_games(yard, 4), repeat=2):
            turned = sums.plus(yard.turned(one), yard.turned(other))
            self.assertEqual(yard.turned(sums.plus(one, other)), turned)

    def test_sums_of_sums(self):
        sums = new_sums()
        yard, chance = sums.yard, random.Random(5)
        games = some_games(yard, 6)
        for _ in range(150):
            one, other, third = chance.sample(games, 3)
            if sum(map(yard.height, (one, other, third))) > 9:
                continue
            told = sums.plus(sums.plus(one, other), third)
            self.assertEqual(told, beside(yard, beside(yard, one, other), third))
            self.assertEqual(sums.plus(one, sums.plus(other, third)), told)
            self.assertEqual(sums.minus(told, third), sums.total([one, other, third, yard.turned(third)]))
            self.assertEqual(sums.minus(third, told), sums.total([third] + [yard.turned(game) for game in
                                                                            (one, other, third)]))

    def test_sums_of_integers_that_were_made_by_hand(self):
        for asked_first in (False, True):
            sums = new_sums()
            yard = sums.yard
            rows = row_games(yard, 12), row_games(yard, 12, "right")
            switch = yard.game([rows[0][3]], [rows[1][2]])
            if asked_first:
                sums.plus(switch, rows[0][1])
            for size, other in itertools.product(range(0, 7), repeat=2):
                self.assertEqual(sums.plus(rows[0][size], rows[0][other]), rows[0][size + other])
                self.assertEqual(sums.plus(rows[1][size], rows[1][other]), rows[1][size + other])
                both = sums.plus(rows[0][size], rows[1][other])
                self.assertEqual(both, beside(yard, rows[0][size], rows[1][other]))
                self.assertEqual(sums.plus(both, switch), beside(yard, both, switch))
                zigzag = yard.game([], [rows[0][size]])
                self.assertEqual(sums.plus(zigzag, rows[0][other]), beside(yard, zigzag, rows[0][other]))

    def test_sums_of_games_in_which_one_side_has_all_the_options(self):
        sums = new_sums()
        yard = sums.yard
        rows = [[0], [0], [0], [0]]
        for _ in range(4):
            # All that came before, the last two, the last one and its turned game, and the last one by turns.
            rows[0].append(yard.game(rows[0], []))
            rows[1].append(yard.game([], rows[1][-2:]))
            rows[2].append(yard.game([rows[2][-1], yard.turned(rows[2][-1])], []))
            rows[3].append(yard.game([rows[3][-1]], [0] if rows[3][-1] else []))
        games = sorted({game for row in rows for game in row})
        for one, other in itertools.product(games, repeat=2):
            self.assertEqual(sums.plus(one, other), beside(yard, one, other))
            self.assertEqual(sums.minus(one, other), beside(yard, one, yard.turned(other)))

    def test_named_sums(self):
        sums = new_sums()
        yard = sums.yard
        one, star = yard.game([0], []), yard.game([0], [0])
        self.assertEqual(sums.plus(star, star), yard.game([star], [star]))
        self.assertEqual(sums.plus(one, one), yard.game([one], []))
        self.assertEqual(sums.minus(one, one), yard.game([yard.turned(one)], [one]))
        self.assertEqual(sums.plus(one, star), yard.game([star, one], [one]))


class TotalTest(unittest.TestCase):
    """Points 5.1 to 5.3, lists of games."""

    def test_lists_of_games(self):
        sums = new_sums()
        yard, chance = sums.yard, random.Random(7)
        games = [game for game in some_games(yard, 8, 30) if yard.height(game) <= 3]
        self.assertEqual(sums.total([]), 0)
        for _ in range(200):
            some = [chance.choice(games) for _ in range(chance.randint(0, 4))]
            passed = list(some)
            told = sums.total(passed)
            self.assertEqual(passed, some)
            expected = 0
            for game in some:
                expected = beside(yard, expected, game)
            self.assertEqual(told, expected)
            self.assertEqual(yard.height(told), sum(map(yard.height, some)))
            chance.shuffle(passed)
            self.assertEqual(sums.total(passed), told)
            self.assertEqual(sums.total(passed + [0, 0]), told)
            self.assertEqual(sums.total([sums.total(some[:2]), sums.total(some[2:])]), told)

    def test_lists_with_duplicates(self):
        sums = new_sums()
        yard = sums.yard
        for game in [game for game in some_games(yard, 9) if yard.height(game) <= 3]:
            self.assertEqual(sums.total([game]), game)
            self.assertEqual(sums.total([game, game]), beside(yard, game, game))
            self.assertEqual(sums.total([game] * 3), beside(yard, beside(yard, game, game), game))

    def test_lists_that_were_passed_may_be_changed(self):
        sums = new_sums()
        yard = sums.yard
        one, star = yard.game([0], []), yard.game([0], [0])
        passed = [one, star]
        told = sums.total(passed)
        plain = sums.plain(passed)
        passed.append(one)
        self.assertEqual(sums.total([one, star]), told)
        self.assertEqual(sums.plain([one, star]), plain)
        self.assertEqual(sums.total(passed), beside(yard, told, one))
        self.assertEqual(passed, [one, star, one])


class CopiesTest(unittest.TestCase):
    """Point 5.2."""

    def test_copies_of_low_games(self):
        sums = new_sums()
        yard = sums.yard
        one, star = yard.game([0], []), yard.game([0], [0])
        rows = row_games(yard, 64), row_games(yard, 64, "right")
        for count in range(-64, 65):
            self.assertEqual(sums.copies(one, count), rows[count < 0][abs(count)])
            self.assertEqual(sums.copies(0, count), 0)
            expected = 0
            for _ in range(abs(count)):
                expected = yard.game([expected], [expected])
            self.assertEqual(sums.copies(star, count), expected)

    def test_copies_by_the_words_of_the_point(self):
        sums = new_sums()
        yard = sums.yard
        for game in some_games(yard, 10):
            self.assertEqual(sums.copies(game, 0), 0)
            self.assertEqual(sums.copies(game, 1), game)
            self.assertEqual(sums.copies(game, -1), yard.turned(game))
            for count in (2, 3) if yard.height(game) <= 3 else (2,):
                told = sums.copies(game, count)
                self.assertEqual(told, sums.total([game] * count))
                self.assertEqual(told, beside(yard, game, sums.copies(game, count - 1)))
                self.assertEqual(sums.copies(game, -count), yard.turned(told))
                self.assertEqual(yard.height(told), count * yard.height(game))

    def test_copies_of_sums(self):
        sums = new_sums()
        yard = sums.yard
        one, star = yard.game([0], []), yard.game([0], [0])
        up = yard.game([0], [star])
        both = sums.plus(up, one)
        self.assertEqual(sums.copies(both, 3), sums.plus(sums.copies(up, 3), sums.copies(one, 3)))
        self.assertEqual(sums.copies(both, -3), sums.minus(sums.copies(one, -3), sums.copies(up, 3)))
        self.assertEqual(sums.copies(sums.copies(up, 3), -2), sums.copies(up, -6))

    def refused(self, sums, game, count):
        size = sums.yard.size
        with self.assertRaises(BadValue):
            sums.copies(game, count)
        self.assertEqual(sums.yard.size, size)

    def test_counts_that_are_none(self):
        sums = new_sums()
        one = sums.yard.game([0], [])
        for count in (*NO_COUNTS, *odd_things()):
            for game in (0, one, 7, -1, 10 ** 30):
                self.refused(sums, game, count)
        self.assertEqual(sums.copies(one, 64), row_games(sums.yard, 64)[64])


class PlainTest(unittest.TestCase):
    """Points 5.3 and 5.5."""

    def test_plain_is_the_simplest_form_of_the_total(self):
        for asked_first in (True, False):
            sums = new_sums()
            yard, chance = sums.yard, random.Random(11)
            games, alone = some_games(yard, 12), forms_alone(yard)
            for _ in range(250):
                some = [chance.choice(games) for _ in range(chance.randint(0, 3))]
                passed = list(some)
                if asked_first:
                    expected = alone.simplest(sums.total(some))
                    self.assertEqual(sums.plain(passed), expected)
                else:
                    told = sums.plain(passed)
                    self.assertEqual(told, alone.simplest(sums.total(some)))
                self.assertEqual(sums.forms.simplest(sums.total(some)), sums.plain(some))
                self.assertEqual(passed, some)
                self.assertIs(type(sums.plain(some)), int)

    def test_plain_by_steps_in_any_order(self):
        sums = new_sums()
        yard, chance = sums.yard, random.Random(13)
        games = [game for game in some_games(yard, 14) if yard.height(game) <= 3]
        anew = Anew(yard)
        for _ in range(40):
            one, other = chance.choice(games), chance.choice(games)
            self.assertEqual(anew.simplest(sums.plus(one, other), chance), sums.plain([one, other]))

    def test_sums_with_numbers(self):
        sums = new_sums()
        yard, chance = sums.yard, random.Random(15)
        one = yard.game([0], [])
        half = yard.game([0], [one])
        quarter = yard.game([0], [half])
        numbers = [one, half, quarter, yard.turned(one), yard.turned(quarter), yard.game([one], [yard.game([one], [])])]
        hot = [yard.game([first], [second]) for first in numbers for second in numbers]
        games, alone = numbers + hot + some_games(yard, 16), forms_alone(yard)
        for _ in range(300):
            some = [chance.choice(numbers), chance.choice(games), chance.choice(hot)]
            told = sums.plain(some)
            self.assertEqual(told, alone.simplest(sums.total(some)))
            self.assertEqual(told, sums.forms.simplest(sums.total(some)))
            self.assertIs(alone.is_simplest(told), True)
            self.assertIs(sums.forms.is_simplest(told), True)

    def test_numbers_that_are_new_beside_sums_that_were_told(self):
        sums = new_sums()
        yard = sums.yard
        row = row_games(yard, 8)
        threat = yard.game([row[8]], [row[2]])
        game = yard.game([threat, row[4]], [yard.turned(row[7])])
        for number in (yard.game([0], [yard.game([0], [row[1]])]), yard.game([row[1]], [row[2]])):
            expected = [forms_alone(yard).simplest(sums.total([one, number])) for one in (threat, game)]
            fresh = Sums(Forms(Order(yard)))
            self.assertEqual([fresh.plain([one, number]) for one in (threat, game)], expected)
            self.assertEqual(len(yard.lefts(expected[1])), 2)

    def test_empty_lists_and_single_games(self):
        sums = new_sums()
        self.assertEqual(sums.plain([]), 0)
        self.assertEqual(sums.plain([0]), 0)
        for game in some_games(sums.yard, 17):
            self.assertEqual(sums.plain([game]), sums.forms.simplest(game))
            self.assertEqual(sums.plain([game, sums.yard.turned(game)]), 0)

    def test_games_of_a_sum_may_be_replaced_by_their_simplest_forms(self):
        sums = new_sums()
        games, alone = some_games(sums.yard, 18), forms_alone(sums.yard)
        simplest = sums.forms.simplest
        for one, other in itertools.product(games, repeat=2):
            told = sums.plain([one, other])
            self.assertEqual(sums.plain([simplest(one), other]), told)
            self.assertEqual(sums.plain([simplest(one), simplest(other)]), told)
            self.assertEqual(simplest(sums.plus(one, simplest(other))), told)
            self.assertEqual(alone.simplest(sums.plus(one, simplest(other))), told)

    def test_what_the_same_game_is_added_to(self):
        sums = new_sums()
        games = some_games(sums.yard, 19, 14)
        simplest = sums.forms.simplest
        for one, other, third in itertools.product(games, repeat=3):
            same = sums.plain([one, third]) == sums.plain([other, third])
            self.assertIs(same, simplest(one) == simplest(other))


class LawsTest(unittest.TestCase):
    """Point 5.4."""

    def test_the_order_of_sums(self):
        sums = new_sums()
        games = some_games(sums.yard, 20, 14)
        order, alone = sums.forms.order, Order(sums.yard)
        for one, other, third in itertools.product(games, repeat=3):
            for some in (order, alone):
                least = some.at_least(sums.plus(one, third), sums.plus(other, third))
                self.assertIs(least, order.at_least(one, other))

    def test_sums_of_alike_games(self):
        sums = new_sums()
        games = some_games(sums.yard, 21, 40)
        order, alike = sums.forms.order, 0
        for one, other in itertools.product(games, repeat=2):
            if one != other and order.alike(one, other):
                alike += 1
                for third in games[::5]:
                    self.assertIs(order.alike(sums.plus(one, third), sums.plus(other, third)), True)
        self.assertGreater(alike, 20)

    def test_a_game_less_another_one(self):
        sums = new_sums()
        games = some_games(sums.yard, 22)
        for order in (sums.forms.order, Order(sums.yard)):
            for one in games:
                self.assertIs(order.alike(sums.minus(one, one), 0), True)
                for other in games:
                    self.assertIs(order.at_least(sums.minus(one, other), 0), order.at_least(one, other))
                    self.assertIs(order.alike(sums.minus(one, other), 0), order.alike(one, other))


class CompanyTest(unittest.TestCase):
    """Point 5.6."""

    def check_pair(self, sums, one, other):
        told = sums.company(one, other)
        order = self.order
        if order.alike(one, other):
            self.assertIsNone(told)
        else:
            self.assertIs(type(told), int)
            self.assertTrue(0 <= told < sums.yard.size)
            outcomes = order.outcome(sums.plus(one, told)), order.outcome(sums.plus(other, told))
            self.assertNotEqual(*outcomes)

    def test_all_pairs_of_small_games(self):
        sums = new_sums()
        self.order = Order(sums.yard)
        games = some_games(sums.yard, 23, 60)
        for one, other in itertools.product(games, repeat=2):
            self.check_pair(sums, one, other)

    def test_games_of_the_same_outcome(self):
        sums = new_sums()
        self.order = Order(sums.yard)
        yard = sums.yard
        one, star = yard.game([0], []), yard.game([0], [0])
        two = yard.game([0, star], [0, star])
        half, up = yard.game([0], [one]), yard.game([0], [star])
        for first, second in ((one, half), (star, two), (up, half), (up, one), (sums.plus(up, up), up)):
            self.assertEqual(sums.forms.order.outcome(first), sums.forms.order.outcome(second))
            self.check_pair(sums, first, second)
            self.check_pair(sums, second, first)
            self.check_pair(sums, yard.turned(first), yard.turned(second))
            self.assertIsNotNone(sums.company(first, second))

    def test_alike_games(self):
        sums = new_sums()
        for game in some_games(sums.yard, 24):
            self.assertIsNone(sums.company(game, game))
            self.assertIsNone(sums.company(game, sums.forms.simplest(game)))
            self.assertIsNone(sums.company(sums.minus(game, game), 0))


class AskedTest(unittest.TestCase):
    """Points 0.4 to 0.6: no answer depends on what was asked or done earlier, errors change nothing."""

    def questions(self, games):
        chance = random.Random(25)
        found = [("plus", (one, other)) for one in games for other in games]
        found += [("minus", (one, other)) for one in games for other in games]
        found += [("copies", (game, count)) for game in games for count in (-2, 0, 1, 2)]
        lists = [[chance.choice(games) for _ in range(chance.randint(0, 3))] for _ in range(60)]
        return found + [(word, (some,)) for word in ("total", "plain") for some in lists]

    def answers(self, sums, questions):
        return [shape(sums.yard, getattr(sums, word)(*passed)) for word, passed in questions]

    def test_asked_in_different_orders_and_again(self):
        chance = random.Random(26)
        first = new_sums()
        games = some_games(first.yard, 27, 12)
        questions = self.questions(games)
        expected = dict(zip(map(repr, questions), self.answers(first, questions)))
        numbers = {repr(question): getattr(first, question[0])(*question[1]) for question in questions}
        for _ in range(2):
            chance.shuffle(questions)
            for sums in (first, Sums(first.forms), new_sums_with(27)):
                told = self.answers(sums, questions)
                self.assertEqual(told, [expected[repr(question)] for question in questions])
        for question in questions:
            self.assertEqual(getattr(first, question[0])(*question[1]), numbers[repr(question)])

    def test_two_yards_by_turns(self):
        first, second = new_sums(), new_sums()
        one_games = some_games(first.yard, 28, 10)
        other_games = some_games(second.yard, 29, 10)
        alone = new_sums()
        some_games(alone.yard, 28, 10)
        for one, other in zip(itertools.product(one_games, repeat=2), itertools.product(other_games, repeat=2)):
            told = shape(first.yard, first.plus(*one))
            second.plain(list(other))
            second.minus(*other)
            self.assertEqual(told, shape(alone.yard, alone.plus(*one)))
            self.assertEqual(shape(first.yard, first.plain(list(one))), shape(alone.yard, alone.plain(list(one))))

    def test_unknown_numbers(self):
        sums = new_sums()
        some_games(sums.yard, 30)
        for number in unknown_numbers(sums.yard):
            for ask in (sums.plus, sums.minus, sums.company):
                for passed in ((number, 0), (0, number), (number, number), (number, 3), (3, number)):
                    self.refused(sums, ask, *passed)
            for ask in (sums.total, sums.plain):
                for some in ([number], [0, number], [number, 0], [1, 2, number, 3], [3, 2, 1, number]):
                    passed = list(some)
                    self.refused(sums, ask, passed)
                    self.assertEqual(passed, some)
            for count in (-64, -1, 0, 1, 64):
                self.refused(sums, sums.copies, number, count)

    def refused(self, sums, ask, *passed):
        with self.assertRaises(Unknown):
            ask(*passed)

    def test_a_number_is_known_once_its_game_is_made(self):
        sums = new_sums()
        self.refused(sums, sums.plus, 1, 0)
        one = sums.yard.game([0], [])
        self.assertEqual(one, 1)
        self.assertEqual(sums.plus(1, 0), 1)
        self.assertEqual(sums.total([1, 1]), sums.yard.game([1], []))
        self.assertIsNotNone(sums.company(1, 0))

    def test_the_forms_and_the_yard(self):
        forms = Forms(Order(Yard()))
        sums = Sums(forms)
        self.assertIs(sums.forms, forms)
        self.assertIs(sums.yard, forms.yard)

    def test_the_games_that_are_kept_do_not_change(self):
        sums = new_sums()
        yard = sums.yard
        games = some_games(yard, 31, 10)
        before = [(yard.lefts(game), yard.rights(game)) for game in range(yard.size)]
        self.answers(sums, self.questions(games))
        self.assertEqual([(yard.lefts(game), yard.rights(game)) for game in range(len(before))], before)


def new_sums_with(seed):
    sums = new_sums()
    some_games(sums.yard, seed, 12)
    return sums


class GreatGamesTest(unittest.TestCase):
    """Point 0.5: high games, and games with many followers that are reached on many ways."""

    def test_copies_of_a_switch(self):
        sums = new_sums()
        yard = sums.yard
        one = yard.game([0], [])
        switch = yard.game([one], [yard.turned(one)])
        with soon():
            many = sums.copies(switch, 50)
            self.assertEqual(yard.height(many), 100)
            self.assertEqual(len(yard.followers(many)), 23426)
            self.assertEqual(sums.plus(sums.copies(switch, 25), sums.copies(switch, 25)), many)
            self.assertEqual(sums.copies(switch, -50), many)
            self.assertEqual(sums.forms.simplest(many), 0)
            self.assertEqual(sums.plain([switch] * 49), switch)
            self.assertIsNone(sums.company(many, 0))
            self.check_company(sums, many, sums.copies(switch, 25))

    def test_two_halves_that_are_sums(self):
        sums = new_sums()
        yard = sums.yard
        one = yard.game([0], [])
        switch = yard.game([one], [yard.turned(one)])
        with soon(20):
            half = sums.copies(switch, 25)
            other = sums.minus(0, half)
            many = sums.plus(half, other)
            self.assertEqual(len(yard.followers(many)), 23426)
            self.assertEqual(sums.minus(half, half), many)
            self.assertEqual(sums.plain([half, half]), 0)
            self.assertEqual(sums.plain([half, half, half]), sums.plain([switch]))

    def test_sums_that_were_made_by_hand(self):
        sums = new_sums()
        yard = sums.yard
        stars = [0]
        for _ in range(100):
            stars.append(yard.game([stars[-1]], [stars[-1]]))
        with soon(20):
            self.assertEqual(sums.plus(stars[50], stars[50]), stars[100])
            self.assertEqual(sums.copies(stars[10], 10), stars[100])
            self.assertEqual(sums.copies(stars[4], -25), stars[100])
            self.assertEqual(sums.total([stars[30], stars[1], stars[40], stars[29]]), stars[100])
            self.assertEqual(Sums(sums.forms).copies(stars[20], 5), stars[100])
            self.assertEqual(sums.forms.simplest(sums.minus(stars[51], stars[26])), stars[1])

    def test_sums_of_games_that_another_object_made(self):
        first = new_sums()
        yard = first.yard
        one = yard.game([0], [])
        switch = yard.game([one], [yard.turned(one)])
        many = [first.copies(switch, count) for count in range(25)]
        with soon(20):
            for count, times in ((2, 12), (3, 8), (6, 4), (12, 2)):
                sums = Sums(Forms(Order(yard)))
                self.assertEqual(sums.copies(many[count], times), many[24])
                self.assertEqual(sums.plain([many[count]] * times), 0)
            sums = Sums(Forms(Order(yard)))
            self.assertEqual(sums.minus(many[10], many[14]), many[24])
            self.assertEqual(sums.total([many[1], many[9], many[2], many[5], many[7]]), many[24])

    def check_company(self, sums, one, other):
        told = sums.company(one, other)
        order = sums.forms.order
        self.assertNotEqual(order.outcome(sums.plus(one, told)), order.outcome(sums.plus(other, told)))

    def test_high_integers_and_heaps(self):
        sums = new_sums()
        yard = sums.yard
        with soon():
            ups, downs = row_games(yard, 100), row_games(yard, 50, "right")
            self.assertEqual(sums.plus(ups[50], ups[50]), ups[100])
            self.assertEqual(sums.plain([ups[50], downs[50]]), 0)
            self.assertEqual(sums.plain([ups[50], downs[20], downs[1], ups[3]]), ups[32])
            heaps = heap_games(yard, 50)
            total = sums.plus(heaps[50], heaps[49])
            self.assertEqual(yard.height(total), 99)
            self.assertEqual(sums.forms.simplest(total), heaps[50 ^ 49])
            total = sums.total([heaps[33], heaps[20], heaps[40]])
            self.assertEqual(sums.plain([heaps[33], heaps[20], heaps[40]]), heaps[33 ^ 20 ^ 40])
            self.assertEqual(sums.forms.simplest(total), heaps[33 ^ 20 ^ 40])
            self.assertEqual(forms_alone(yard).simplest(total), heaps[33 ^ 20 ^ 40])
            self.check_company(sums, total, heaps[1])

    def test_switches_of_many_sizes(self):
        sums = new_sums()
        yard = sums.yard
        with soon():
            ups, downs = row_games(yard, 7), row_games(yard, 7, "right")
            switches = [yard.game([ups[size]], [downs[size]]) for size in range(1, 8)]
            total = sums.total(switches)
            self.assertEqual(yard.height(total), 35)
            self.assertGreater(len(yard.followers(total)), 10000)
            self.assertEqual(forms_alone(yard).simplest(total), sums.plain(switches))
            self.assertIsNone(sums.company(total, sums.plain(switches)))

    def test_ladders(self):
        sums = new_sums()
        yard = sums.yard
        with soon():
            games = ladder_games(yard, 50)
            total = sums.plus(games[50], games[49])
            self.assertEqual(yard.height(total), 99)
            self.assertEqual(sums.plus(games[49], games[50]), total)
            self.assertEqual(sums.plain([games[50], games[49]]), forms_alone(yard).simplest(total))

    def test_mixed_games(self):
        sums = new_sums()
        yard, chance = sums.yard, random.Random(32)
        with soon():
            games = [game for game in mixed_games(yard, chance, 80) if 12 <= len(yard.followers(game)) <= 34]
            for _ in range(3):
                some = chance.sample(games, 3)
                total = sums.total(some)
                self.assertEqual(forms_alone(yard).simplest(total), sums.plain(some))
                self.assertEqual(sums.forms.simplest(total), sums.plain(some))
                self.assertEqual(yard.height(total), sum(map(yard.height, some)))
                self.check_company(sums, total, yard.game([total], []))


if __name__ == "__main__":
    unittest.main()

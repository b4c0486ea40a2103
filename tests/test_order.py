"""Points 3.1 to 3.6: play and order."""

import itertools
import random
import unittest

from sumsplay.errors import Unknown
from sumsplay.order import Order
from sumsplay.yard import Yard
from tests.worked import (
    Worked, all_sublists, beside, heap_games, ladder_games, low_games, mixed_games, row_games, soon, tile_games,
    unknown_numbers, zigzag_games)

SIDES = ("left", "right")
COMPARISONS = ("at_least", "at_most", "alike", "less", "apart")


def foe(side):
    return "right" if side == "left" else "left"


def worked_comparisons(worked, one, other):
    """What the five comparisons have to tell, by the words of points 3.3 and 3.4."""
    least, most = worked.at_least(one, other), worked.at_least(other, one)
    return {"at_least": least, "at_most": most, "alike": least and most, "less": most and not (least and most),
            "apart": not least and not most}


def worked_winning(worked, game, side):
    return [option for option in worked.options(game, side) if not worked.can_win(option, foe(side))]


def worked_outcome(worked, game):
    """The outcome by the words of point 3.2: who wins if left begins, and who wins if right begins."""
    winners = ("left" if worked.can_win(game, "left") else "right", "right" if worked.can_win(game, "right") else "left")
    names = {("left", "left"): "left", ("right", "right"): "right", ("left", "right"): "first",
             ("right", "left"): "second"}
    return names[winners]


def named_games(yard):
    """Some games that have names of their own."""
    named = {"0": 0}
    named["1"] = yard.game([0], [])
    named["-1"] = yard.game([], [0])
    named["2"] = yard.game([named["1"]], [])
    named["1/2"] = yard.game([0], [named["1"]])
    named["*"] = yard.game([0], [0])
    named["*2"] = yard.game([0, named["*"]], [0, named["*"]])
    named["^"] = yard.game([0], [named["*"]])
    named["v"] = yard.game([named["*"]], [0])
    named["1|-1"] = yard.game([named["1"]], [named["-1"]])
    named["-1|1"] = yard.game([named["-1"]], [named["1"]])
    return named


class WordsTest(unittest.TestCase):
    """Points 3.1 to 3.4: every method against the words of the points."""

    def check_pair(self, order, worked, one, other):
        for word, expected in worked_comparisons(worked, one, other).items():
            told = getattr(order, word)(one, other)
            if told is not expected:
                self.fail(f"{word}({one}, {other}) is {told!r} and not {expected}")

    def check_game(self, order, worked, game):
        for side in SIDES:
            self.assertIs(order.can_win(game, side), worked.can_win(game, side))
            self.assertEqual(order.winning(game, side), worked_winning(worked, game, side))
        self.assertEqual(order.outcome(game), worked_outcome(worked, game))

    def test_all_pairs_of_low_games(self):
        yard = Yard()
        games = low_games(yard)
        order, worked = Order(yard), Worked(yard)
        for game in games:
            self.check_game(order, worked, game)
        for one in games:
            for other in games:
                self.check_pair(order, worked, one, other)

    def test_pairs_of_mixed_games(self):
        for seed, most in ((1, 3), (2, 2), (3, 4)):
            yard = Yard()
            games = sorted(set(mixed_games(yard, random.Random(seed), 120, most)))
            order, worked = Order(yard), Worked(yard)
            for one in games:
                self.check_game(order, worked, one)
                for other in games:
                    self.check_pair(order, worked, one, other)

    def test_chosen_games_over_low_games(self):
        yard = Yard()
        low = low_games(yard)
        chance = random.Random(4)
        games = [yard.game(chance.sample(low, chance.randint(0, 4)), chance.sample(low, chance.randint(0, 4)))
                 for _ in range(150)]
        order, worked = Order(yard), Worked(yard)
        for one in games:
            self.check_game(order, worked, one)
            for other in games:
                self.check_pair(order, worked, one, other)

    def test_named_outcomes(self):
        yard = Yard()
        named, order = named_games(yard), Order(yard)
        expected = {"0": "second", "1": "left", "-1": "right", "2": "left", "1/2": "left", "*": "first", "*2": "first",
                    "^": "left", "v": "right", "1|-1": "first", "-1|1": "second"}
        for name, outcome in expected.items():
            self.assertEqual(order.outcome(named[name]), outcome, name)

    def test_named_winners(self):
        yard = Yard()
        named, order = named_games(yard), Order(yard)
        self.assertEqual((order.winning(0, "left"), order.winning(0, "right")), ([], []))
        self.assertIs(order.can_win(0, "left"), False)
        self.assertIs(order.can_win(0, "right"), False)
        one = named["1"]
        self.assertEqual((order.winning(one, "left"), order.winning(one, "right")), ([0], []))
        two = named["*2"]
        self.assertEqual((order.winning(two, "left"), order.winning(two, "right")), ([0], [0]))
        up = named["^"]
        self.assertEqual((order.winning(up, "left"), order.winning(up, "right")), ([0], []))
        many = yard.game([named["-1"], 0, one, named["*"], named["1|-1"]], [one, 0, named["v"]])
        self.assertEqual(order.winning(many, "left"), sorted([0, one]))
        self.assertEqual(order.winning(many, "right"), sorted([0, named["v"]]))

    def test_named_comparisons(self):
        yard = Yard()
        named, order = named_games(yard), Order(yard)
        less = (("-1", "0"), ("0", "1"), ("0", "1/2"), ("1/2", "1"), ("1", "2"), ("0", "^"), ("v", "0"), ("v", "^"),
                ("^", "1/2"), ("*", "1"), ("-1", "*"), ("*2", "1/2"), ("1|-1", "2"), ("v", "*2"), ("*2", "^"))
        apart = (("*", "0"), ("*2", "0"), ("*", "*2"), ("^", "*"), ("v", "*"), ("1|-1", "0"), ("1|-1", "1"),
                 ("1|-1", "1/2"), ("1|-1", "*"), ("1|-1", "^"))
        for one, other in less:
            one, other = named[one], named[other]
            self.assertEqual([getattr(order, word)(one, other) for word in COMPARISONS],
                             [False, True, False, True, False])
            self.assertEqual([getattr(order, word)(other, one) for word in COMPARISONS],
                             [True, False, False, False, False])
        for one, other in apart:
            one, other = named[one], named[other]
            for first, second in ((one, other), (other, one)):
                self.assertEqual([getattr(order, word)(first, second) for word in COMPARISONS],
                                 [False, False, False, False, True])
        for game in named.values():
            self.assertEqual([getattr(order, word)(game, game) for word in COMPARISONS],
                             [True, True, True, False, False])
        self.assertEqual([getattr(order, word)(named["-1|1"], 0) for word in COMPARISONS],
                         [True, True, True, False, False])

    def test_the_yard(self):
        yard = Yard()
        self.assertIs(Order(yard).yard, yard)

    def test_games_that_are_made_after_the_order(self):
        yard = Yard()
        order, worked = Order(yard), Worked(yard)
        self.check_game(order, worked, 0)
        self.check_pair(order, worked, 0, 0)
        chance = random.Random(5)
        games = [0]
        for _ in range(70):
            lefts = [chance.choice(games[-12:]) for _ in range(chance.randint(0, 3))]
            rights = [chance.choice(games[-12:]) for _ in range(chance.randint(0, 3))]
            games.append(yard.game(lefts, rights))
            if chance.random() < 0.2:
                games.append(yard.turned(games[-1]))
            last = games[-1]
            self.check_game(order, worked, last)
            for game in games:
                self.check_pair(order, worked, last, game)
                self.check_pair(order, worked, game, last)


class AskedTest(unittest.TestCase):
    """Points 3.6 and 0.4: no answer depends on what was asked or done earlier."""

    def setUp(self):
        self.yard = Yard()
        self.games = sorted(set(mixed_games(self.yard, random.Random(6), 45)))
        self.questions = [(word, (one, other)) for word in COMPARISONS for one in self.games for other in self.games]
        for game in self.games:
            self.questions.append(("outcome", (game,)))
            self.questions = self.questions + [(word, (game, side)) for word in ("can_win", "winning") for side in SIDES]

    def answers(self, order, questions):
        return {(word, passed): getattr(order, word)(*passed) for word, passed in questions}

    def test_asked_in_different_orders_and_again(self):
        expected = self.answers(Order(self.yard), self.questions)
        chance = random.Random(7)
        for _ in range(4):
            chance.shuffle(self.questions)
            order = Order(self.yard)
            self.assertEqual(self.answers(order, self.questions), expected)
            chance.shuffle(self.questions)
            self.assertEqual(self.answers(order, self.questions), expected)
        self.assertEqual(self.answers(Order(self.yard), self.questions[::-1]), expected)

    def test_each_question_as_the_first_one(self):
        expected = self.answers(Order(self.yard), self.questions)
        for word, passed in self.questions[::41]:
            self.assertEqual(getattr(Order(self.yard), word)(*passed), expected[word, passed])

    def test_true_and_false_are_told_themselves(self):
        order = Order(self.yard)
        for word, passed in self.questions:
            told = getattr(order, word)(*passed)
            if word == "winning":
                self.assertIs(type(told), list)
            elif word == "outcome":
                self.assertIs(type(told), str)
            else:
                self.assertTrue(told is True or told is False)

    def test_lists_that_are_told_may_be_changed(self):
        order = Order(self.yard)
        for game in self.games:
            for side in SIDES:
                before = order.winning(game, side)
                kept = list(before)
                before.append(77)
                self.assertEqual(order.winning(game, side), kept)
                before.clear()
                self.assertEqual(order.winning(game, side), kept)
                self.assertEqual(order.can_win(game, side), kept != [])
                self.assertIsNot(order.winning(game, side), order.winning(game, side))

    def test_two_orders_and_two_yards(self):
        expected = self.answers(Order(self.yard), self.questions)
        other_yard = Yard()
        orders = [Order(self.yard), Order(self.yard), Order(other_yard)]
        mixed_games(other_yard, random.Random(8), 60)
        for word, passed in self.questions[::7]:
            for order in orders[:2]:
                self.assertEqual(getattr(order, word)(*passed), expected[word, passed])
            if all(number in SIDES or number < other_yard.size for number in passed):
                getattr(orders[2], word)(*passed)
        for order in orders[:2]:
            self.assertEqual(self.answers(order, self.questions), expected)

    def test_the_games_that_are_kept_do_not_change(self):
        yard = self.yard
        before = [(yard.lefts(game), yard.rights(game)) for game in range(yard.size)]
        self.answers(Order(yard), self.questions)
        self.assertEqual([(yard.lefts(game), yard.rights(game)) for game in range(len(before))], before)


class UnknownTest(unittest.TestCase):
    """Point 2.2: numbers that are unknown, in each argument of each method."""

    def setUp(self):
        self.yard = Yard()
        self.games = list(named_games(self.yard).values())
        self.order = Order(self.yard)

    def refused(self, word, *passed):
        with self.assertRaises(Unknown):
            getattr(self.order, word)(*passed)

    def test_comparisons(self):
        for word in COMPARISONS:
            for number in unknown_numbers(self.yard):
                for game in (0, 1, self.games[-1]):
                    self.refused(word, number, game)
                    self.refused(word, game, number)
                self.refused(word, number, number)

    def test_winners(self):
        for number in unknown_numbers(self.yard):
            self.refused("outcome", number)
            for side in SIDES:
                self.refused("can_win", number, side)
                self.refused("winning", number, side)

    def test_a_call_that_raises_changes_no_answer(self):
        self.test_comparisons()
        self.test_winners()
        worked = Worked(self.yard)
        for one in self.games:
            self.assertEqual(self.order.outcome(one), worked_outcome(worked, one))
            for other in self.games:
                self.assertIs(self.order.at_least(one, other), worked.at_least(one, other))

    def test_a_number_is_known_once_its_game_is_made(self):
        number = self.yard.size
        self.refused("at_least", number, 0)
        self.refused("can_win", number, "left")
        game = self.yard.game([self.games[-1], self.games[1]], [])
        self.assertEqual(game, number)
        self.assertIs(self.order.at_least(number, 0), True)
        self.assertIs(self.order.can_win(number, "left"), True)
        self.refused("outcome", number + 1)


class LawsTest(unittest.TestCase):
    """Points 3.5 and 3.6: what the order and play have to do with each other."""

    def small_games(self, yard, count):
        """Some games of all sorts: those that have names, and some that are chosen."""
        games = list(named_games(yard).values()) + mixed_games(yard, random.Random(9), 60, 2)
        return sorted(set(games))[:count]

    def test_the_order_agrees_with_play_side_by_side(self):
        yard = Yard()
        low = low_games(yard)
        order, worked = Order(yard), Worked(yard)
        for one in low[::3]:
            for other in low:
                self.assertIs(order.at_least(one, other), not worked.wins_beside(one, other, "right"))
                self.assertIs(order.at_most(one, other), not worked.wins_beside(one, other, "left"))

    def test_the_order_agrees_with_play_in_games_that_are_made(self):
        yard = Yard()
        order = Order(yard)
        games = self.small_games(yard, 40)
        for one in games:
            for other in games[::3]:
                both = beside(yard, one, yard.turned(other))
                self.assertIs(order.at_least(one, other), not order.can_win(both, "right"))
                self.assertIs(order.at_most(one, other), not order.can_win(both, "left"))
                self.assertIs(order.alike(one, other), order.outcome(both) == "second")
                self.assertIs(order.less(one, other), order.outcome(both) == "right")
                self.assertIs(order.apart(one, other), order.outcome(both) == "first")

    def test_at_least_and_at_most_0(self):
        yard = Yard()
        games = low_games(yard) + mixed_games(yard, random.Random(10), 100)
        order = Order(yard)
        for game in games:
            self.assertIs(order.at_least(game, 0), not order.can_win(game, "right"))
            self.assertIs(order.at_most(game, 0), not order.can_win(game, "left"))
            names = {(True, True): "second", (True, False): "left", (False, True): "right", (False, False): "first"}
            self.assertEqual(order.outcome(game), names[order.at_least(game, 0), order.at_most(game, 0)])

    def test_every_game_is_at_least_itself(self):
        yard = Yard()
        games = low_games(yard) + mixed_games(yard, random.Random(11), 100)
        order = Order(yard)
        for game in games:
            self.assertIs(order.at_least(game, game), True)
            self.assertIs(order.alike(game, game), True)

    def test_three_games(self):
        yard = Yard()
        games = low_games(yard)[::6] + self.small_games(yard, 40)
        order = Order(yard)
        least = {(one, other): order.at_least(one, other) for one in games for other in games}
        for one, second, third in itertools.product(games, repeat=3):
            if least[one, second] and least[second, third]:
                self.assertTrue(least[one, third])

    def test_turned_games(self):
        yard = Yard()
        games = low_games(yard)[::4] + self.small_games(yard, 60)
        order = Order(yard)
        outcomes = {"left": "right", "right": "left", "first": "first", "second": "second"}
        for one in games:
            self.assertEqual(order.outcome(yard.turned(one)), outcomes[order.outcome(one)])
            for side in SIDES:
                self.assertIs(order.can_win(yard.turned(one), side), order.can_win(one, foe(side)))
            for other in games:
                self.assertIs(order.at_least(yard.turned(other), yard.turned(one)), order.at_least(one, other))

    def test_one_of_four_holds(self):
        yard = Yard()
        games = low_games(yard)[::3]
        order = Order(yard)
        for one in games:
            for other in games:
                four = [order.alike(one, other), order.less(one, other), order.less(other, one),
                        order.apart(one, other)]
                self.assertEqual(four.count(True), 1)

    def changed_games(self, yard, count):
        """Some games, each with its options and with an option more."""
        chance = random.Random(12)
        games = low_games(yard)[::5] + self.small_games(yard, 60)
        for _ in range(count):
            lefts = chance.sample(games, chance.randint(0, 3))
            rights = chance.sample(games, chance.randint(0, 3))
            yield yard.game(lefts, rights), lefts, rights, chance.choice(games)

    def test_further_left_options_and_fewer_right_ones(self):
        yard = Yard()
        order = Order(yard)
        for game, lefts, rights, more in self.changed_games(yard, 400):
            self.assertIs(order.at_least(yard.game(lefts + [more], rights), game), True)
            self.assertIs(order.at_most(yard.game(lefts, rights + [more]), game), True)
            for some in all_sublists(rights):
                self.assertIs(order.at_least(yard.game(lefts, some), game), True)
            for some in all_sublists(lefts):
                self.assertIs(order.at_most(yard.game(some, rights), game), True)

    def test_options_that_are_replaced_by_greater_ones(self):
        yard = Yard()
        order = Order(yard)
        replaced = 0
        for game, lefts, rights, more in self.changed_games(yard, 1500):
            new_lefts = [more if order.at_least(more, option) else option for option in lefts]
            new_rights = [more if order.at_least(more, option) else option for option in rights]
            replaced += (new_lefts, new_rights) != (lefts, rights)
            self.assertIs(order.at_least(yard.game(new_lefts, new_rights), game), True)
            self.assertIs(order.at_least(yard.game(new_lefts, rights), game), True)
            self.assertIs(order.at_least(yard.game(lefts, new_rights), game), True)
        self.assertGreater(replaced, 300)


class GreatGamesTest(unittest.TestCase):
    """Point 0.5: high games, and games with many followers that are reached on many ways."""

    def test_rows_of_100_games(self):
        yard = Yard()
        order = Order(yard)
        with soon():
            ups, downs = row_games(yard, 100), row_games(yard, 100, "right")
            zigzags = zigzag_games(yard, 100)
            for first in (0, 1, 50, 99, 100):
                for second in (0, 1, 49, 50, 99, 100):
                    self.assertIs(order.at_least(ups[first], ups[second]), first >= second)
                    self.assertIs(order.at_least(downs[first], downs[second]), first <= second)
                    self.assertIs(order.at_least(downs[first], ups[second]), first == second == 0)
                    self.assertIs(order.apart(ups[first], downs[second]), False)
            self.assertEqual((order.outcome(ups[100]), order.outcome(downs[100])), ("left", "right"))
            for game in zigzags:
                # The game with the left option 0 is 1, and the one with the right option 1 is 0, and so on.
                self.assertEqual(order.outcome(game), "left" if yard.height(game) % 2 else "second")
                self.assertIs(order.alike(game, zigzags[yard.height(game) % 2]), True)

    def test_somewhat_higher_games(self):
        yard = Yard()
        order = Order(yard)
        with soon():
            row, zigzags = row_games(yard, 600), zigzag_games(yard, 600)
            self.assertIs(order.at_least(row[600], row[599]), True)
            self.assertIs(order.at_least(row[599], row[600]), False)
            self.assertIs(order.at_least(zigzags[600], zigzags[599]), False)
            self.assertEqual(order.outcome(row[600]), "left")

    def test_options_that_share_their_followers(self):
        yard = Yard()
        order = Order(yard)
        with soon():
            # Who may take one or two from a heap is left with the size by threes.
            ladder = ladder_games(yard, 100)
            heaps = heap_games(yard, 2)
            steps = [0, heaps[1]]
            while len(steps) <= 100:
                steps.append(yard.game(steps[-2:], steps[-2:]))
            for at, game in enumerate(steps):
                self.assertIs(order.alike(game, heaps[at % 3]), True)
                self.assertEqual(order.outcome(game), "first" if at % 3 else "second")
            for one in ladder[::9]:
                for other in ladder[::7]:
                    least = order.at_least(one, other)
                    self.assertIs(order.at_most(other, one), least)
                    self.assertIs(order.at_least(yard.turned(other), yard.turned(one)), least)

    def test_tiles(self):
        yard = Yard()
        order = Order(yard)
        with soon():
            games = tile_games(yard, 50, 50)
            places = [(49, 49), (48, 49), (49, 48), (30, 10), (7, 41)]
            for first, second in itertools.product(places, repeat=2):
                one, other = games[first], games[second]
                least = order.at_least(one, other)
                self.assertIs(order.at_least(yard.turned(other), yard.turned(one)), least)
                self.assertIs(order.less(other, one), least and not order.alike(one, other))

    def test_heaps_side_by_side(self):
        yard = Yard()
        order = Order(yard)
        with soon():
            heaps = heap_games(yard, 63)
            for sizes in ((33, 33), (20, 40), (40, 60), (20, 33, 40)):
                total, answer = 0, 0
                for size in sizes:
                    total, answer = beside(yard, total, heaps[size]), answer ^ size
                for size in (answer, answer ^ 1, answer ^ 2, 0):
                    self.assertIs(order.alike(total, heaps[size]), size == answer)
                    self.assertIs(order.apart(total, heaps[size]), size != answer)
                    self.assertIs(order.at_least(heaps[size], total), size == answer)

    def test_numbers_side_by_side(self):
        yard = Yard()
        order = Order(yard)
        with soon():
            ups, downs = row_games(yard, 50), row_games(yard, 36, "right")
            total = beside(yard, beside(yard, ups[30], downs[34]), ups[35])
            for size in range(29, 34):
                self.assertIs(order.alike(total, ups[size]), size == 31)
                self.assertIs(order.less(total, ups[size]), size > 31)
                self.assertIs(order.less(ups[size], total), size < 31)

    def test_games_beside_games_that_cancel_out(self):
        yard = Yard()
        order = Order(yard)
        with soon():
            games = [game for game in mixed_games(yard, random.Random(13), 90, 2) if yard.height(game) > 8]
            for game, more in ((games[0], games[3]), (games[5], games[-1]), (games[-2], games[4])):
                total = beside(yard, beside(yard, game, more), yard.turned(game))
                self.assertIs(order.alike(total, more), True)
                worse = yard.game(yard.lefts(more), yard.rights(more) + [yard.game([], [more])])
                self.assertIs(order.at_least(total, worse), True)
                self.assertIs(order.at_least(worse, total), order.alike(worse, more))

    def test_switches_side_by_side(self):
        yard = Yard()
        order = Order(yard)
        with soon():
            ups, downs = row_games(yard, 8), row_games(yard, 8, "right")
            total = 0
            for size in range(1, 8):
                total = beside(yard, total, yard.game([ups[size]], [downs[size]]))
            self.assertGreater(len(yard.followers(total)), 10000)
            # The greatest one is the best move. Left begins, moves last, and reaches 7 - 6 + 5 - 4 + 3 - 2 + 1.
            for size in range(9):
                self.assertIs(order.less(total, ups[size]), size > 4)
                self.assertIs(order.less(downs[size], total), size > 4)
            self.assertEqual(order.outcome(total), "first")

    def test_50000_followers(self):
        yard = Yard()
        order = Order(yard)
        chance = random.Random(14)
        with soon(120):
            last, games = low_games(yard)[-100:], low_games(yard)
            for _ in range(50):
                last = sorted({yard.game(chance.sample(last, min(3, len(last))), chance.sample(last, min(3, len(last))))
                               for _ in range(980)})
                games = games + last
            top, other = yard.game(last[::2], last[1::2]), yard.game(last[1::2], last[::2])
            self.assertGreater(len(yard.followers(top)), 40000)
            self.assertLess(len(yard.followers(top)), 50000)
            least = order.at_least(top, other)
            self.assertIs(order.at_least(yard.turned(other), yard.turned(top)), least)
            self.assertIs(order.at_least(yard.game(last, last[1::2]), top), True)
            self.assertIs(order.at_most(yard.game(last[::2], last), top), True)
            self.assertIs(order.can_win(top, "left"), any(not order.can_win(game, "right") for game in last[::2]))


if __name__ == "__main__":
    unittest.main()

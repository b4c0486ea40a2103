"""Points 4.1 to 4.7: steps and simplest forms."""

import itertools
import random
import unittest

from sumsplay.errors import NoMove, Unknown
from sumsplay.forms import Forms
from sumsplay.order import Order
from sumsplay.yard import Yard
from tests.anew import SIDES, Anew, foe
from tests.worked import (
    beside, heap_games, ladder_games, low_games, mixed_games, row_games, shape, soon, tile_games, turned_shape,
    unknown_numbers, zigzag_games)


def new_forms():
    return Forms(Order(Yard()))


def small_games(yard, seed, count=60, most=3):
    """Some games of all sorts, with alike options and answers that lead back among them."""
    chance = random.Random(seed)
    low = low_games(yard)
    chosen = [yard.game(chance.sample(low, chance.randint(0, 4)), chance.sample(low, chance.randint(0, 4)))
              for _ in range(count)]
    return sorted(set(mixed_games(yard, chance, count, most) + chosen + chance.sample(low, 20)))


class StepsTest(unittest.TestCase):
    """Points 4.1 to 4.4."""

    def check_game(self, forms, anew, game):
        yard = forms.yard
        steps = anew.steps(game)
        self.assertEqual(forms.steps(game), steps)
        for step in forms.steps(game):
            self.assertIs(type(step), tuple)
            self.assertEqual([type(item) for item in step], [str, str] + [int] * (len(step) - 2))
            told = forms.taken(game, step)
            lefts, rights = anew.taken(game, step)
            self.assertEqual((yard.lefts(told), yard.rights(told)), (sorted(lefts), sorted(rights)))

    def test_all_low_games(self):
        forms = new_forms()
        games = low_games(forms.yard)
        anew = Anew(forms.yard)
        for game in games:
            self.check_game(forms, anew, game)

    def test_games_of_all_sorts(self):
        kinds = set()
        for seed in (1, 2, 3):
            forms = new_forms()
            games = small_games(forms.yard, seed)
            anew = Anew(forms.yard)
            for game in games:
                self.check_game(forms, anew, game)
                kinds.update(step[:2] for step in forms.steps(game))
        self.assertEqual(kinds, set(itertools.product(("drop", "back"), SIDES)))

    def test_games_that_are_made_later(self):
        forms = new_forms()
        yard, chance = forms.yard, random.Random(4)
        anew, games = Anew(yard), [0]
        self.assertEqual(forms.steps(0), [])
        for _ in range(80):
            lefts = [chance.choice(games[-15:]) for _ in range(chance.randint(0, 3))]
            games.append(yard.game(lefts, [chance.choice(games[-15:]) for _ in range(chance.randint(0, 3))]))
            self.check_game(forms, anew, games[-1])

    def test_alike_options_may_each_be_dropped(self):
        forms = new_forms()
        yard = forms.yard
        star = yard.game([0], [0])
        zero = yard.game([star], [star])
        other = yard.game([yard.game([], [0])], [yard.game([0], [])])
        game = yard.game([0, zero, other], [])
        self.assertEqual(forms.steps(game)[:3], [("drop", "left", option) for option in sorted([0, zero, other])])
        game = yard.game([], [0, zero, star])
        self.assertEqual(forms.steps(game)[:2], [("drop", "right", option) for option in sorted([0, zero])])
        self.assertEqual(yard.rights(forms.taken(game, ("drop", "right", 0))), sorted([zero, star]))
        self.assertEqual(yard.rights(forms.taken(game, ("drop", "right", zero))), sorted([0, star]))

    def test_the_better_option_stays(self):
        forms = new_forms()
        yard = forms.yard
        one, less = yard.game([0], []), yard.game([], [0])
        two = yard.game([one], [])
        game = yard.game([0, less], [two, one])
        self.assertEqual(forms.steps(game)[:2], [("drop", "left", less), ("drop", "right", two)])
        # Right answers -1 by 0, and left 2 by 1: both answers are better than the game, which is 1/2.
        self.assertEqual(forms.steps(game)[2:], [("back", "left", less, 0), ("back", "right", two, one)])
        self.assertEqual(forms.taken(game, ("drop", "left", less)), yard.game([0], [one, two]))
        self.assertEqual(forms.taken(game, ("drop", "right", two)), yard.game([0, less], [one]))
        apart = yard.game([0, yard.game([0], [0])], [])
        self.assertEqual([step for step in forms.steps(apart) if step[0] == "drop"], [])

    def test_steps_back_add_what_the_side_has_there(self):
        forms = new_forms()
        yard = forms.yard
        star = yard.game([0], [0])
        two = yard.game([0, star], [0, star])
        up = yard.game([0], [star])
        # Left moves from up and star to up, and right answers there to star.
        game = yard.game([up, star], [0])
        self.assertIn(("back", "left", up, star), forms.steps(game))
        told = forms.taken(game, ("back", "left", up, star))
        self.assertEqual((yard.lefts(told), yard.rights(told)), (sorted({star, 0}), [0]))
        self.assertEqual(forms.steps(two), [])
        self.assertEqual(forms.taken(yard.game([], [star]), ("back", "right", star, 0)), 0)

    def test_several_answers_to_one_option(self):
        forms = new_forms()
        yard, chance = forms.yard, random.Random(5)
        low, anew, seen = low_games(yard), Anew(yard), 0
        for _ in range(200):
            game = yard.game(chance.sample(low, 3), chance.sample(low, 3))
            steps = [step for step in forms.steps(game) if step[0] == "back"]
            options = [step[:3] for step in steps]
            seen += len(options) > len(set(options))
            self.assertEqual(steps, [step for step in anew.steps(game) if step[0] == "back"])
            self.assertEqual(steps, sorted(steps, key=lambda step: (SIDES.index(step[1]), step[2], step[3])))
        self.assertGreater(seen, 20)

    def refused(self, forms, game, step):
        yard = forms.yard
        with self.assertRaises(NoMove):
            forms.taken(game, step)
        self.assertEqual(self.before, [(yard.lefts(one), yard.rights(one)) for one in range(len(self.before))])

    def test_tuples_that_are_no_allowed_steps(self):
        forms = new_forms()
        yard = forms.yard
        games = small_games(yard, 6, 25)
        self.before = [(yard.lefts(game), yard.rights(game)) for game in range(yard.size)]
        for game in games:
            allowed = forms.steps(game)
            for step in allowed:
                self.refused(forms, game, step[:-1])
                self.refused(forms, game, step + (0,))
                self.refused(forms, game, step + ("left",))
                self.refused(forms, game, step + step)
                self.refused(forms, game, ("Drop",) + step[1:])
                self.refused(forms, game, ("",) + step[1:])
                self.refused(forms, game, step[1:])
                self.refused(forms, game, step[::-1])
                self.refused(forms, game, (step[0], step[1].upper()) + step[2:])
                self.refused(forms, game, (step[0], "") + step[2:])
                self.refused(forms, game, step[:-1] + (str(step[-1]),))
                self.refused(forms, game, step[:-1] + (-1,))
                self.refused(forms, game, step[:-1] + (10 ** 30,))
                self.refused(forms, game, step[:-1] + (yard.size,))
                self.refused(forms, game, step[2:3] + step[1:])
                other = (step[0], foe(step[1])) + step[2:]
                if other not in allowed:
                    self.refused(forms, game, other)
            for step in ((), ("drop",), ("back",), ("drop", "left"), ("back", "right", 0), (0, 0, 0), (0, 0, 0, 0), ("",)):
                self.refused(forms, game, step)
            for side in SIDES:
                for option in range(0, yard.size, 7):
                    if ("drop", side, option) not in allowed:
                        self.refused(forms, game, ("drop", side, option))
                    for answer in (0, 1, option, game):
                        if ("back", side, option, answer) not in allowed:
                            self.refused(forms, game, ("back", side, option, answer))
            self.assertEqual(forms.steps(game), allowed)

    def test_lists_that_are_told_may_be_changed(self):
        forms = new_forms()
        for game in small_games(forms.yard, 7, 30):
            before = forms.steps(game)
            kept = list(before)
            before.append(("drop", "left", game))
            self.assertEqual(forms.steps(game), kept)
            before.clear()
            self.assertEqual(forms.steps(game), kept)
            self.assertIsNot(forms.steps(game), forms.steps(game))

    def test_before_and_after_simplest_forms_were_asked_for(self):
        forms = new_forms()
        games = small_games(forms.yard, 8)
        other = Forms(forms.order)
        before = {game: forms.steps(game) for game in games}
        for game in games:
            forms.simplest(game)
            other.simplest(game)
            self.assertEqual(forms.steps(game), before[game])
        self.assertEqual({game: forms.steps(game) for game in games}, before)
        self.assertEqual({game: other.steps(game) for game in games}, before)
        fresh = Forms(Order(forms.yard))
        self.assertEqual({game: fresh.steps(game) for game in games[::-1]}, before)


class SimplestTest(unittest.TestCase):
    """Points 4.5 to 4.7."""

    def test_each_step_leads_to_another_game_that_is_alike_and_not_higher(self):
        forms = new_forms()
        yard = forms.yard
        games = small_games(yard, 9) + low_games(yard)[::4]
        anew, steps = Anew(yard), 0
        for game in games:
            for step in forms.steps(game):
                told = forms.taken(game, step)
                self.assertNotEqual(told, game)
                self.assertTrue(anew.alike(told, game))
                self.assertLessEqual(yard.height(told), yard.height(game))
                steps += 1
        self.assertGreater(steps, 500)

    def test_replacements_in_any_order_end_in_the_simplest_form(self):
        forms = new_forms()
        yard = forms.yard
        chance = random.Random(10)
        anew = Anew(yard)
        for game in small_games(yard, 11, 40):
            simplest = forms.simplest(game)
            for _ in range(3):
                self.assertEqual(anew.simplest(game, chance), simplest)

    def test_replacements_by_the_steps_that_are_told(self):
        forms = new_forms()
        yard, chance = forms.yard, random.Random(12)
        anew = Anew(yard)
        for game in small_games(yard, 13, 40):
            simplest = forms.simplest(game)
            while True:
                waiting = [(follower, step) for follower in yard.followers(game) for step in forms.steps(follower)]
                self.assertEqual(forms.is_simplest(game), not waiting)
                self.assertEqual(forms.simplest(game), simplest)
                if not waiting:
                    break
                follower, step = chance.choice(waiting)
                game = anew.replaced(game, follower, forms.taken(follower, step))
            self.assertEqual(game, simplest)

    def test_all_low_games(self):
        forms = new_forms()
        yard = forms.yard
        games = low_games(yard)
        anew = Anew(yard)
        for game in games:
            simplest = forms.simplest(game)
            self.assertTrue(anew.alike(game, simplest))
            self.assertTrue(anew.is_simplest(simplest))
            self.assertIs(forms.is_simplest(game), anew.is_simplest(game))
        # There are 22 games of a height of at most 2, where alike games count once.
        self.assertEqual(len({forms.simplest(game) for game in games}), 22)

    def test_simplest_games(self):
        forms = new_forms()
        yard = forms.yard
        games = small_games(yard, 14)
        anew = Anew(yard)
        for game in games:
            simplest = forms.simplest(game)
            self.assertEqual(forms.simplest(simplest), simplest)
            self.assertIs(forms.is_simplest(simplest), True)
            self.assertIs(forms.is_simplest(game), game == simplest)
            self.assertIs(forms.is_simplest(game), anew.is_simplest(game))
            self.assertTrue(anew.is_simplest(simplest))
            for follower in yard.followers(simplest):
                self.assertIs(forms.is_simplest(follower), True)
            self.assertLessEqual(yard.height(simplest), yard.height(game))
            self.assertLessEqual(len(yard.followers(simplest)), len(yard.followers(game)))

    def test_a_game_is_not_simplest_if_a_follower_is_not(self):
        forms = new_forms()
        yard = forms.yard
        star = yard.game([0], [0])
        zero = yard.game([star], [])
        one = yard.game([zero], [])
        self.assertEqual(forms.steps(one), [])
        self.assertIs(forms.is_simplest(one), False)
        self.assertEqual(forms.simplest(one), yard.game([0], []))
        above = yard.game([yard.game([one], [])], [])
        self.assertIs(forms.is_simplest(above), False)

    def test_alike_games_and_only_these_have_the_same_simplest_form(self):
        forms = new_forms()
        yard = forms.yard
        games = small_games(yard, 15)
        anew = Anew(yard)
        for one, other in itertools.combinations(games, 2):
            self.assertIs(forms.simplest(one) == forms.simplest(other), anew.alike(one, other))

    def test_turned_games(self):
        forms = new_forms()
        yard = forms.yard
        for game in small_games(yard, 16):
            turned = yard.turned(game)
            self.assertEqual(forms.simplest(turned), yard.turned(forms.simplest(game)))
            self.assertIs(forms.is_simplest(turned), forms.is_simplest(game))
            steps = [(step[0], foe(step[1]), *map(yard.turned, step[2:])) for step in forms.steps(game)]
            self.assertEqual(sorted(forms.steps(turned)), sorted(steps))
            told = shape(yard, forms.simplest(game))
            self.assertEqual(shape(yard, forms.simplest(turned)), turned_shape(told))

    def test_named_games(self):
        forms = new_forms()
        yard = forms.yard
        one, less, star = yard.game([0], []), yard.game([], [0]), yard.game([0], [0])
        up = yard.game([0], [star])
        half = yard.game([0], [one])
        for game in (0, one, less, star, up, half, yard.game([one], [less]), yard.game([one], [one])):
            self.assertIs(forms.is_simplest(game), True)
            self.assertEqual(forms.simplest(game), game)
            self.assertEqual(forms.steps(game), [])
        self.assertEqual(forms.simplest(yard.game([less], [one])), 0)
        self.assertEqual(forms.simplest(yard.game([half], [])), one)
        self.assertEqual(forms.simplest(yard.game([up], [yard.turned(up)])), yard.game([0], [0]))
        self.assertEqual(forms.simplest(yard.game([0, one, half], [])), yard.game([one], []))


class AskedTest(unittest.TestCase):
    """Points 4.7, 0.4 and 0.6: no answer depends on what was asked or done earlier."""

    def shapes(self, forms, games):
        return {game: shape(forms.yard, forms.simplest(game)) for game in games}

    def test_asked_in_different_orders_and_again(self):
        yard = Yard()
        games = small_games(yard, 17)
        forms = Forms(Order(yard))
        expected = {game: (forms.simplest(game), forms.is_simplest(game), forms.steps(game)) for game in games}
        chance = random.Random(18)
        for _ in range(3):
            chance.shuffle(games)
            for forms in (forms, Forms(Order(yard)), Forms(forms.order)):
                for game in games:
                    told = (forms.simplest(game), forms.is_simplest(game), forms.steps(game))
                    self.assertEqual(told, expected[game])
        for game in games[::9]:
            self.assertEqual(Forms(Order(yard)).simplest(game), expected[game][0])
            self.assertEqual(Forms(Order(yard)).is_simplest(game), expected[game][1])
            self.assertEqual(Forms(Order(yard)).steps(game), expected[game][2])

    def test_true_and_false_and_integers_are_told_themselves(self):
        forms = new_forms()
        for game in small_games(forms.yard, 19, 20):
            self.assertIs(type(forms.simplest(game)), int)
            self.assertIs(type(forms.is_simplest(game)), bool)
            self.assertIs(type(forms.steps(game)), list)

    def test_two_yards_by_turns(self):
        first, second = new_forms(), new_forms()
        one_games = mixed_games(first.yard, random.Random(20), 60)
        other_games = mixed_games(second.yard, random.Random(21), 60)
        alone = self.shapes(new_forms_with(20), one_games)
        for one, other in zip(one_games, other_games):
            self.assertEqual(shape(first.yard, first.simplest(one)), alone[one])
            second.simplest(other)
            second.steps(other)
        self.assertEqual(self.shapes(first, one_games), alone)

    def test_games_that_are_made_in_unlike_orders(self):
        first, second = new_forms(), new_forms()
        games = small_games(first.yard, 22, 40)
        made = {0: 0}
        # The second yard gets the same games by the order of their heights, from above to below and turned first.
        second.yard.game([0], [0])
        order = sorted({follower for game in games for follower in first.yard.followers(game)}, reverse=True)
        for game in sorted(order, key=first.yard.height):
            sides = [[made[option] for option in first.yard.options(game, side)] for side in SIDES]
            made[game] = second.yard.game(*sides)
            second.yard.turned(made[game])
        self.assertNotEqual([made[game] for game in games], games)
        for game in games:
            told, expected = second.simplest(made[game]), first.simplest(game)
            self.assertEqual(shape(second.yard, told), shape(first.yard, expected))
            self.assertEqual(len(second.steps(made[game])), len(first.steps(game)))

    def test_unknown_numbers(self):
        forms = new_forms()
        small_games(forms.yard, 23, 10)
        for number in unknown_numbers(forms.yard):
            for ask in (forms.steps, forms.simplest, forms.is_simplest):
                with self.assertRaises(Unknown):
                    ask(number)
            for step in (("drop", "left", 0), (), ("x",)):
                with self.assertRaises(Unknown):
                    forms.taken(number, step)
        number = forms.yard.size
        game = forms.yard.game([number - 1], [number - 2, 0])
        self.assertEqual(game, number)
        forms.steps(number), forms.simplest(number), forms.is_simplest(number)

    def test_the_order_and_the_yard(self):
        order = Order(Yard())
        forms = Forms(order)
        self.assertIs(forms.order, order)
        self.assertIs(forms.yard, order.yard)

    def test_the_games_that_are_kept_do_not_change(self):
        forms = new_forms()
        yard = forms.yard
        games = small_games(yard, 24)
        before = [(yard.lefts(game), yard.rights(game)) for game in range(yard.size)]
        for game in games:
            for step in forms.steps(game):
                forms.taken(game, step)
            forms.simplest(game)
        self.assertEqual([(yard.lefts(game), yard.rights(game)) for game in range(len(before))], before)


def new_forms_with(seed):
    forms = new_forms()
    mixed_games(forms.yard, random.Random(seed), 60)
    return forms


class GreatGamesTest(unittest.TestCase):
    """Point 0.5: high games, and games with many followers that are reached on many ways."""

    def test_high_games(self):
        forms = new_forms()
        yard = forms.yard
        with soon():
            for game in row_games(yard, 100) + row_games(yard, 100, "right"):
                self.assertIs(forms.is_simplest(game), True)
                self.assertEqual(forms.steps(game), [])
            zigzags = zigzag_games(yard, 100)
            for game in zigzags:
                self.assertEqual(forms.simplest(game), zigzags[yard.height(game) % 2])
            heaps = heap_games(yard, 100)
            self.assertEqual(forms.simplest(heaps[100]), heaps[100])
            self.assertEqual(forms.steps(heaps[100]), [])
            self.assertIs(forms.is_simplest(yard.game(heaps, heaps[:-1])), True)

    def test_options_that_share_their_followers(self):
        forms = new_forms()
        yard = forms.yard
        with soon():
            heaps, steps = heap_games(yard, 2), [0, yard.game([0], [0])]
            while len(steps) <= 100:
                steps.append(yard.game(steps[-2:], steps[-2:]))
            for at, game in enumerate(steps):
                self.assertEqual(forms.simplest(game), heaps[at % 3])
                self.assertEqual(forms.is_simplest(game), at < 3)
                self.assertEqual(forms.steps(game) == [], at < 3)
            ladder = ladder_games(yard, 100)
            self.assertIs(forms.is_simplest(forms.simplest(ladder[100])), True)
            self.assertIs(forms.order.alike(forms.simplest(ladder[100]), ladder[100]), True)

    def test_tiles(self):
        forms = new_forms()
        with soon():
            games = tile_games(forms.yard, 50, 50)
            simplest = forms.simplest(games[49, 49])
            self.assertIs(forms.is_simplest(simplest), True)
            self.assertIs(forms.order.alike(simplest, games[49, 49]), True)
            for step in forms.steps(games[49, 49]):
                self.assertEqual(forms.simplest(forms.taken(games[49, 49], step)), simplest)

    def test_heaps_side_by_side(self):
        forms = new_forms()
        yard = forms.yard
        with soon():
            heaps = heap_games(yard, 63)
            total = beside(yard, beside(yard, heaps[20], heaps[33]), heaps[40])
            self.assertEqual(forms.simplest(total), heaps[20 ^ 33 ^ 40])
            self.assertIs(forms.is_simplest(total), False)
            sizes = [heaps.index(forms.simplest(option)) for option in yard.lefts(total)]
            alike = [option for option, size in zip(yard.lefts(total), sizes) if sizes.count(size) > 1]
            self.assertEqual([step[2] for step in forms.steps(total) if step[:2] == ("drop", "left")], alike)
            self.assertNotEqual(alike, [])

    def test_many_followers(self):
        forms = new_forms()
        yard = forms.yard
        chance = random.Random(25)
        with soon(120):
            last = low_games(yard)[-100:]
            for _ in range(40):
                last = sorted({yard.game(chance.sample(last, min(3, len(last))), chance.sample(last, min(3, len(last))))
                               for _ in range(900)})
            top = yard.game(last[::2], last[1::2])
            self.assertGreater(len(yard.followers(top)), 30000)
            simplest = forms.simplest(top)
            self.assertIs(forms.is_simplest(simplest), True)
            self.assertIs(forms.is_simplest(top), False)
            self.assertEqual(forms.simplest(yard.turned(top)), yard.turned(simplest))
            steps = forms.steps(top)
            for step in (steps[0], steps[-1], steps[len(steps) // 2]):
                self.assertEqual(forms.simplest(forms.taken(top, step)), simplest)


if __name__ == "__main__":
    unittest.main()

"""Points 7.1 to 7.3: walls."""

import itertools
import random
import unittest
from fractions import Fraction

from sumsplay.dyadic import Dyadic
from sumsplay.errors import BadValue
from sumsplay.walls import Wall, highest, lowest
from tests.anew import dyadic, fraction
from tests.worked import soon

SLOPES = (-1, 0, 1)


def wall(points, slope):
    """The wall with these points, which are pairs of numbers."""
    return Wall([(dyadic(heat), dyadic(place)) for heat, place in points], slope)


def told_points(some_wall):
    return [(fraction(heat), fraction(place)) for heat, place in some_wall.points()]


def told(some_wall):
    """The points and the slope that a wall tells."""
    return told_points(some_wall), some_wall.slope


def place_at(points, slope, heat):
    """The place by the words of point 7.1."""
    for (first, low), (second, high) in itertools.pairwise(points):
        if first <= heat <= second:
            return low + (high - low) / (second - first) * (heat - first)
    return points[-1][1] + slope * (heat - points[-1][0])


def slope_behind(points, slope, heat):
    """The slope of the piece right behind a temperature."""
    for (first, low), (second, high) in itertools.pairwise(points):
        if first <= heat < second:
            return (high - low) / (second - first)
    return slope


def chosen_points(random, count, halves=2):
    """The points and the slope of a wall, also points that make no difference."""
    points = [(Fraction(0), Fraction(random.randint(-12, 12), 2 ** random.randint(0, halves)))]
    for _ in range(count - 1):
        run = Fraction(random.randint(1, 9), 2 ** random.randint(0, halves))
        heat, place = points[-1]
        points.append((heat + run, place + random.choice(SLOPES) * run))
    return points, random.choice(SLOPES)


def heats_around(points):
    """Temperatures at points, between points and behind the last one."""
    heats = sorted({heat for heat, _ in points})
    between = [(first + second) / 2 for first, second in itertools.pairwise(heats)]
    near = [first + (second - first) / 8 for first, second in itertools.pairwise(heats)]
    return sorted(heats + between + near + [heats[-1] + Fraction(1, 4), heats[-1] + 7, heats[-1] + 100])


class WallTest(unittest.TestCase):
    """Points 7.1 and 7.2."""

    def test_places_and_slopes_by_the_words_of_the_point(self):
        chance = random.Random(1)
        for _ in range(300):
            points, slope = chosen_points(chance, chance.randint(1, 6))
            some = wall(points, slope)
            self.assertEqual(some.slope, slope)
            for heat in heats_around(points):
                place = some.at(dyadic(heat))
                self.assertIs(type(place), Dyadic)
                self.assertEqual(fraction(place), place_at(points, slope, heat))
                self.assertEqual(some.slope_at(dyadic(heat)), slope_behind(points, slope, heat))
                self.assertIs(type(some.slope_at(dyadic(heat))), int)

    def test_points_that_make_no_difference_are_left_out(self):
        chance = random.Random(2)
        fewer = 0
        for _ in range(300):
            points, slope = chosen_points(chance, chance.randint(1, 6))
            expected, before = [], None
            for point in points:
                behind = slope_behind(points, slope, point[0])
                if behind != before:
                    expected.append(point)
                before = behind
            fewer += len(expected) < len(points)
            some = wall(points, slope)
            self.assertEqual(told(some), (expected, slope))
            again = Wall(some.points(), some.slope)
            self.assertEqual(told(again), told(some))
        self.assertGreater(fewer, 100)

    def test_the_first_point_stays(self):
        for slope in SLOPES:
            self.assertEqual(told(wall([(0, 5)], slope)), ([(0, 5)], slope))
            self.assertEqual(told(wall([(0, 5), (3, 5 + 3 * slope)], slope)), ([(0, 5)], slope))
            long = [(heat, 5 + slope * heat) for heat in range(9)]
            self.assertEqual(told(wall(long, slope)), ([(0, 5)], slope))

    def test_the_slope_behind_the_last_point(self):
        for slope in SLOPES:
            some = wall([(0, 0), (1, 1), (2, 1), (3, 0)], slope)
            self.assertEqual(some.slope, slope)
            self.assertEqual(some.slope_at(Dyadic(3)), slope)
            self.assertEqual(some.slope_at(Dyadic(1000)), slope)
            self.assertEqual(fraction(some.at(Dyadic(1003))), 1000 * slope)
            self.assertEqual([some.slope_at(Dyadic(top, 1)) for top in range(6)], [1, 1, 0, 0, -1, -1])
            self.assertIs(type(some.slope), int)

    def test_numbers_in_any_form(self):
        some = Wall([(Dyadic(0, 7), Dyadic(12, 2)), (Dyadic(8, 3), Dyadic(4))], 0)
        self.assertEqual(told(some), ([(0, 3), (1, 4)], 0))
        self.assertEqual(wall([(0, 0)], -1).at(Dyadic(1, 40)).text(), "-1/1099511627776")
        self.assertEqual(some.at(Dyadic(2, 2)).text(), "7/2")

    def test_temperatures_below_0(self):
        some = wall([(0, 1), (2, 3)], 0)
        for heat in (Dyadic(-1), Dyadic(-1, 40), Dyadic(-(10 ** 12)), Dyadic(-3, 1)):
            for ask in (some.at, some.slope_at, some.cut):
                with self.assertRaises(BadValue):
                    ask(heat)
        self.assertEqual(told(some), ([(0, 1), (2, 3)], 0))


class FaultsTest(unittest.TestCase):
    """The faults that the heading names."""

    def refused(self, points, slope):
        passed = [(dyadic(heat), dyadic(place)) for heat, place in points]
        kept = list(passed)
        with self.assertRaises(BadValue):
            Wall(passed, slope)
        self.assertEqual(passed, kept)

    def test_no_points(self):
        for slope in SLOPES:
            self.refused([], slope)

    def test_a_first_temperature_that_is_not_0(self):
        for heat in (1, -1, Fraction(1, 2 ** 30), Fraction(-1, 2)):
            self.refused([(heat, 0)], 0)
            self.refused([(heat, 0), (heat + 1, 0)], 0)
        self.refused([(-1, 0), (0, 0)], 0)

    def test_temperatures_that_do_not_ascend(self):
        for heats in ((0, 0), (0, 1, 1), (0, 2, 1), (0, 1, 2, 2), (0, 1, 2, 1), (0, -1), (0, 3, 0)):
            self.refused([(heat, 0) for heat in heats], 0)
            self.refused([(heat, heat) for heat in heats], 1)
            self.refused([(heat, at) for at, heat in enumerate(heats)], 1)

    def test_slopes_between_points(self):
        for rise in (2, -2, Fraction(1, 2), Fraction(-1, 2), 3, Fraction(3, 2), Fraction(-1, 1024)):
            self.refused([(0, 0), (1, rise)], 0)
            self.refused([(0, 0), (1, 1), (2, 1 + rise)], 0)
            self.refused([(0, 0), (1, rise), (2, rise)], 0)
            self.refused([(0, 5), (4, 5 + 4 * rise)], 1)
        self.refused([(0, 0), (2, 1)], 0)
        self.refused([(0, 0), (1, 2)], 0)

    def test_slopes_behind(self):
        for slope in (2, -2, 3, 10 ** 30, -100):
            self.refused([(0, 0)], slope)
            self.refused([(0, 0), (1, 1)], slope)


class ChangedTest(unittest.TestCase):
    """Point 7.3: walls that are tilted, turned and cut."""

    def setUp(self):
        chance = random.Random(3)
        self.kinds = [chosen_points(chance, chance.randint(1, 5)) for _ in range(150)]

    def test_tilted(self):
        refused = 0
        for points, slope in self.kinds:
            some = wall(points, slope)
            slopes = [slope_behind(points, slope, heat) for heat, _ in points]
            for more in SLOPES:
                if all(-1 <= old + more <= 1 for old in slopes):
                    other = some.tilted(more)
                    self.assertIs(type(other), Wall)
                    self.assertEqual(other.slope, slope + more)
                    for heat in heats_around(points):
                        self.assertEqual(fraction(other.at(dyadic(heat))), place_at(points, slope, heat) + more * heat)
                        self.assertEqual(other.slope_at(dyadic(heat)), slope_behind(points, slope, heat) + more)
                    self.assertEqual(told(other), told(wall([(heat, place + more * heat) for heat, place in points],
                                                            slope + more)))
                else:
                    refused += 1
                    with self.assertRaises(BadValue):
                        some.tilted(more)
        self.assertGreater(refused, 100)

    def test_a_piece_in_the_middle_that_cannot_be_tilted(self):
        some = wall([(0, 0), (1, 0), (2, 1), (3, 1)], 0)
        with self.assertRaises(BadValue):
            some.tilted(1)
        self.assertEqual(told(some.tilted(-1)), ([(0, 0), (1, -1), (2, -1)], -1))
        self.assertEqual(told(some.tilted(0)), told(some))
        self.assertEqual(told(some), ([(0, 0), (1, 0), (2, 1)], 0))

    def test_turned(self):
        for points, slope in self.kinds:
            some = wall(points, slope)
            other = some.turned()
            self.assertEqual(told(other), ([(heat, -place) for heat, place in told_points(some)], -slope))
            for heat in heats_around(points):
                self.assertEqual(fraction(other.at(dyadic(heat))), -place_at(points, slope, heat))
            self.assertEqual(told(other.turned()), told(some))

    def test_cut(self):
        for points, slope in self.kinds:
            some = wall(points, slope)
            for end in heats_around(points):
                other = some.cut(dyadic(end))
                self.assertEqual(other.slope, 0)
                self.assertEqual(other.slope_at(dyadic(end)), 0)
                for heat in heats_around(points + [(end, 0)]):
                    self.assertEqual(fraction(other.at(dyadic(heat))), place_at(points, slope, min(heat, end)))

    def test_points_of_cut_walls(self):
        some = wall([(0, 0), (2, 2), (4, 2)], -1)
        self.assertEqual(told(some.cut(Dyadic(0))), ([(0, 0)], 0))
        self.assertEqual(told(some.cut(Dyadic(1))), ([(0, 0), (1, 1)], 0))
        self.assertEqual(told(some.cut(Dyadic(2))), ([(0, 0), (2, 2)], 0))
        self.assertEqual(told(some.cut(Dyadic(3))), ([(0, 0), (2, 2)], 0))
        self.assertEqual(told(some.cut(Dyadic(4))), ([(0, 0), (2, 2)], 0))
        self.assertEqual(told(some.cut(Dyadic(9, 1))), ([(0, 0), (2, 2), (4, 2), (Fraction(9, 2), Fraction(3, 2))], 0))
        self.assertEqual(told(some.cut(Dyadic(1, 5))), ([(0, 0), (Fraction(1, 32), Fraction(1, 32))], 0))

    def test_a_wall_does_not_change(self):
        for points, slope in self.kinds[:60]:
            some = wall(points, slope)
            before = told(some)
            some.turned(), some.cut(Dyadic(1)), some.cut(Dyadic(0)), some.tilted(0), some.at(Dyadic(1, 9))
            highest([some, some.turned()]), lowest([some.cut(Dyadic(3)), some])
            self.assertEqual(told(some), before)

    def test_lists_that_are_passed_or_told_may_be_changed(self):
        for points, slope in self.kinds[:60]:
            passed = [(dyadic(heat), dyadic(place)) for heat, place in points]
            kept = list(passed)
            some = Wall(passed, slope)
            self.assertEqual(passed, kept)
            before = told(some)
            passed.clear()
            self.assertEqual(told(some), before)
            listed = some.points()
            self.assertIs(type(listed), list)
            listed.append(listed[0])
            self.assertEqual(told(some), before)
            listed.clear()
            self.assertEqual(told(some), before)
            for point in some.points():
                self.assertEqual([type(point), type(point[0]), type(point[1])], [tuple, Dyadic, Dyadic])
            walls = [some, some.turned()]
            both = told(highest(walls))
            self.assertEqual(len(walls), 2)
            self.assertIs(walls[0], some)
            walls.clear()
            self.assertEqual(told(highest([some, some.turned()])), both)


class ManyTest(unittest.TestCase):
    """Point 7.3: the highest and the lowest of some walls."""

    def check(self, kinds):
        walls = [wall(points, slope) for points, slope in kinds]
        above, below = highest(walls), lowest(walls)
        self.assertEqual([type(above), type(below)], [Wall, Wall])
        marks = [point for points, _ in kinds for point in points] + above.points() + below.points()
        marks = [(Fraction(heat) if not isinstance(heat, Dyadic) else fraction(heat), 0) for heat, _ in marks]
        for heat in heats_around(marks):
            places = [place_at(points, slope, heat) for points, slope in kinds]
            self.assertEqual(fraction(above.at(dyadic(heat))), max(places))
            self.assertEqual(fraction(below.at(dyadic(heat))), min(places))
        far = heats_around(marks)[-1] + 10 ** 6
        tops = [(place_at(points, slope, far), slope) for points, slope in kinds]
        self.assertEqual(above.slope, max(tops)[1])
        self.assertEqual(below.slope, min(tops)[1])
        for one in (above, below):
            # The points that are told make a difference, and the slopes between them are slopes.
            self.assertEqual(told(Wall(one.points(), one.slope)), told(one))
        turned = lowest([one.turned() for one in walls]).turned()
        self.assertEqual(told(turned), told(above))

    def test_walls_of_all_sorts(self):
        chance = random.Random(4)
        for _ in range(400):
            self.check([chosen_points(chance, chance.randint(1, 5)) for _ in range(chance.randint(1, 4))])

    def test_one_wall_and_the_same_walls(self):
        chance = random.Random(5)
        for _ in range(40):
            points, slope = chosen_points(chance, chance.randint(1, 5))
            some = wall(points, slope)
            for count in (1, 2, 5):
                self.assertEqual(told(highest([some] * count)), told(some))
                self.assertEqual(told(lowest([some] * count)), told(some))
                self.assertEqual(told(highest([wall(points, slope) for _ in range(count)])), told(some))

    def test_walls_that_cross_between_points(self):
        falling, rising = wall([(0, 3)], -1), wall([(0, 0)], 1)
        half = Fraction(3, 2)
        self.assertEqual(told(highest([falling, rising])), ([(0, 3), (half, half)], 1))
        self.assertEqual(told(lowest([rising, falling])), ([(0, 0), (half, half)], -1))
        level = wall([(0, 1)], 0)
        self.assertEqual(told(highest([falling, level])), ([(0, 3), (2, 1)], 0))
        self.assertEqual(told(lowest([falling, level])), ([(0, 1), (2, 1)], -1))
        self.assertEqual(told(highest([falling, level, rising])), ([(0, 3), (half, half)], 1))
        self.assertEqual(told(lowest([falling, level, rising])), ([(0, 0), (1, 1), (2, 1)], -1))
        # They cross behind the last point of the one and between points of the other.
        bent = wall([(0, 0), (6, 0), (7, 1)], 0)
        self.assertEqual(told(highest([falling, bent])), ([(0, 3), (3, 0), (6, 0), (7, 1)], 0))
        self.assertEqual(told(highest([wall([(0, 1), (1, 0)], 0), wall([(0, 0), (1, 1)], 0)])),
                         ([(0, 1), (Fraction(1, 2), Fraction(1, 2)), (1, 1)], 0))

    def test_walls_that_touch(self):
        low, high = wall([(0, 0), (2, 2)], -1), wall([(0, 2)], 0)
        self.assertEqual(told(highest([low, high])), ([(0, 2)], 0))
        self.assertEqual(told(lowest([low, high])), ([(0, 0), (2, 2)], -1))
        self.check([([(0, 0), (2, 2)], -1), ([(0, 4), (2, 2)], 1)])
        self.assertEqual(told(highest([low, wall([(0, 4), (2, 2)], 1)])), ([(0, 4), (2, 2)], 1))

    def test_walls_that_run_together(self):
        one, other = wall([(0, 2), (2, 0)], 0), wall([(0, 1), (1, 1), (2, 0), (4, 0)], 1)
        self.assertEqual(told(highest([one, other])), ([(0, 2), (2, 0), (4, 0)], 1))
        self.assertEqual(told(lowest([one, other])), ([(0, 1), (1, 1), (2, 0)], 0))
        # They part at the end, or begin at the same place.
        self.assertEqual(told(highest([wall([(0, 0)], 0), wall([(0, 0)], -1)])), ([(0, 0)], 0))
        self.assertEqual(told(lowest([wall([(0, 0)], 0), wall([(0, 0)], -1)])), ([(0, 0)], -1))
        self.assertEqual(told(highest([wall([(0, 0), (3, 0)], 1), wall([(0, 0), (3, 0)], -1)])), ([(0, 0), (3, 0)], 1))

    def test_lowest_and_highest_at_the_first_temperature(self):
        for one, other in itertools.product(itertools.product((0, 1), SLOPES), repeat=2):
            self.check([([(0, one[0])], one[1]), ([(0, other[0])], other[1])])

    def test_many_walls_of_many_points(self):
        chance = random.Random(6)
        with soon():
            kinds = [chosen_points(chance, 60) for _ in range(40)]
            walls = [wall(points, slope) for points, slope in kinds]
            above, below = highest(walls), lowest(walls)
            for heat in range(0, 200, 7):
                places = [place_at(points, slope, Fraction(heat)) for points, slope in kinds]
                self.assertEqual(fraction(above.at(Dyadic(heat))), max(places))
                self.assertEqual(fraction(below.at(Dyadic(heat))), min(places))


if __name__ == "__main__":
    unittest.main()

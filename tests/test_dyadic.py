"""Points 1.1 to 1.5: dyadic numbers."""

import itertools
import random
import unittest
from fractions import Fraction

from sumsplay.dyadic import Dyadic, simplest_between
from sumsplay.errors import BadText, BadValue
from tests.worked import odd_things, soon

MOST = 10 ** 12


def value(number):
    """A dyadic as a fraction."""
    return Fraction(number.top, 2 ** number.power)


def told(number):
    return (number.top, number.power)


def many_numbers():
    """Numbers of all sorts, so small that sums of two of them keep the bounds."""
    chance = random.Random(11)
    numbers = [Dyadic(top, power) for top in range(-9, 10) for power in range(4)]
    numbers = numbers + [Dyadic(1, power) for power in range(20)] + [Dyadic(-1, power) for power in range(20)]
    for _ in range(60):
        numbers.append(Dyadic(chance.randint(-10 ** 4, 10 ** 4), chance.randint(0, 20)))
    return numbers


def age(number):
    """The age of a fraction by the words of point 1.4."""
    power = number.denominator.bit_length() - 1
    return abs(int(number)) if power == 0 else int(abs(number)) + power + 1


def simplest(low, high):
    """The simplest number between two bounds, found by its age alone among the numbers of each age."""
    for wanted in itertools.count():
        found = []
        for power in range(wanted + 1):
            if power == 0:
                tops = [-wanted, wanted]
            else:
                whole = wanted - power - 1
                size = range(whole * 2 ** power + 1, (whole + 1) * 2 ** power, 2) if whole >= 0 else []
                tops = [sign * top for top in size for sign in (1, -1)]
            for top in tops:
                number = Fraction(top, 2 ** power)
                if (low is None or low < number) and (high is None or number < high):
                    found.append(number)
        if found:
            assert len(set(found)) == 1, "the simplest number is the only one of its age"
            return found[0]


class FormTest(unittest.TestCase):
    """Point 1.1."""

    def test_the_plain_form_of_every_small_pair(self):
        for top in range(-70, 71):
            for power in range(8):
                number = Dyadic(top, power)
                self.assertEqual(value(number), Fraction(top, 2 ** power))
                self.assertTrue(number.power == 0 or number.top % 2 == 1)
                self.assertIs(type(number.top), int)
                self.assertIs(type(number.power), int)

    def test_named_forms(self):
        self.assertEqual(told(Dyadic(6, 2)), (3, 1))
        self.assertEqual(told(Dyadic(-6, 2)), (-3, 1))
        self.assertEqual(told(Dyadic(8, 3)), (1, 0))
        self.assertEqual(told(Dyadic(8, 2)), (2, 0))
        self.assertEqual(told(Dyadic(5)), (5, 0))
        self.assertEqual(told(Dyadic(4)), (4, 0))

    def test_every_form_of_0(self):
        for power in range(41):
            self.assertEqual(told(Dyadic(0, power)), (0, 0))

    def test_the_bounds_themselves(self):
        self.assertEqual(told(Dyadic(MOST)), (MOST, 0))
        self.assertEqual(told(Dyadic(-MOST)), (-MOST, 0))
        self.assertEqual(told(Dyadic(MOST, 40)), (5 ** 12, 28))
        self.assertEqual(told(Dyadic(-MOST, 40)), (-(5 ** 12), 28))
        self.assertEqual(told(Dyadic(MOST - 1, 40)), (MOST - 1, 40))
        self.assertEqual(told(Dyadic(1, 40)), (1, 40))
        self.assertEqual(told(Dyadic(-1, 40)), (-1, 40))

    def test_beyond_the_bounds(self):
        for top in (MOST + 1, -MOST - 1, MOST + 2, 2 * MOST, 2 ** 64, -(2 ** 64), 10 ** 5000, -(10 ** 5000)):
            for power in (0, 1, 40):
                with self.assertRaises(BadValue):
                    Dyadic(top, power)
        for power in (-1, 41, 42, 2 ** 64, -(2 ** 64), 10 ** 5000, -(10 ** 5000)):
            for top in (0, 1, 2, 2 ** 35):
                with self.assertRaises(BadValue):
                    Dyadic(top, power)

    def test_the_bounds_hold_for_what_is_passed(self):
        # Each of these has a plain form within the bounds.
        for top, power in ((2 * MOST, 1), (MOST + 2, 1), (-MOST - 2, 1), (4, 41), (0, 41), (0, -1)):
            with self.assertRaises(BadValue):
                Dyadic(top, power)

    def test_other_objects(self):
        for thing in odd_things() + ["", "1", "1/2", Dyadic(1)]:
            with self.assertRaises(BadValue):
                Dyadic(thing)
            with self.assertRaises(BadValue):
                Dyadic(thing, 1)
            with self.assertRaises(BadValue):
                Dyadic(1, thing)
            with self.assertRaises(BadValue):
                Dyadic(thing, thing)

    def test_a_number_does_not_change(self):
        number, other = Dyadic(-12, 4), Dyadic(5, 3)
        for _ in range(3):
            number + other, other + number, number - other, other - number, -number, number.half()
            number.less(other), number.same(other), number.text(), number.age(), number + number
            simplest_between(number, other), simplest_between(None, number), simplest_between(number, None)
            with self.assertRaises(BadValue):
                simplest_between(other, number)
            self.assertEqual((told(number), told(other)), ((-3, 2), (5, 3)))

    def test_a_number_cannot_be_assigned_to(self):
        number = Dyadic(3, 1)
        for word in ("top", "power"):
            with self.assertRaises(AttributeError):
                setattr(number, word, 7)
        self.assertEqual(told(number), (3, 1))


class ReckoningTest(unittest.TestCase):
    """Point 1.2."""

    def check(self, number, expected):
        self.assertIs(type(number), Dyadic)
        self.assertEqual(value(number), expected)
        self.assertTrue(number.power == 0 or number.top % 2 == 1)

    def test_sums_and_differences(self):
        numbers = many_numbers()
        for one in numbers:
            for other in numbers:
                self.check(one + other, value(one) + value(other))
                self.check(one - other, value(one) - value(other))

    def test_negatives_and_halves(self):
        for number in many_numbers():
            self.check(-number, -value(number))
            self.check(number.half(), value(number) / 2)

    def test_order(self):
        numbers = many_numbers()
        for one in numbers:
            for other in numbers:
                self.assertIs(one.less(other), value(one) < value(other))
                self.assertIs(one.same(other), value(one) == value(other))

    def test_named_results(self):
        self.assertEqual(told(Dyadic(1, 1) + Dyadic(1, 1)), (1, 0))
        self.assertEqual(told(Dyadic(3, 2) + Dyadic(1, 2)), (1, 0))
        self.assertEqual(told(Dyadic(3, 2) - Dyadic(3, 2)), (0, 0))
        self.assertEqual(told(Dyadic(3, 2) - Dyadic(1, 2)), (1, 1))
        self.assertEqual(told(-Dyadic(0)), (0, 0))
        self.assertEqual(told(Dyadic(0).half()), (0, 0))
        self.assertEqual(told(Dyadic(6).half()), (3, 0))

    def test_results_at_the_bounds(self):
        self.assertEqual(told(Dyadic(MOST - 1) + Dyadic(1)), (MOST, 0))
        self.assertEqual(told(-Dyadic(MOST)), (-MOST, 0))
        self.assertEqual(told(Dyadic(1, 39).half()), (1, 40))
        self.assertEqual(told(Dyadic(MOST).half()), (MOST // 2, 0))
        self.assertEqual(told(Dyadic(MOST) - Dyadic(MOST)), (0, 0))
        # What these are made of is out of bounds before it is in its plain form.
        self.assertEqual(told(Dyadic(MOST - 1, 40) + Dyadic(2 ** 40 - MOST + 1, 40)), (1, 0))
        self.assertEqual(told(Dyadic(MOST - 1, 1) + Dyadic(MOST - 1, 1)), (MOST - 1, 0))
        self.assertEqual(told(Dyadic(MOST - 1, 40) - Dyadic(1 - MOST, 40)), (MOST - 1, 39))
        self.assertEqual(told(Dyadic(MOST) + Dyadic(-MOST)), (0, 0))

    def test_order_at_the_bounds(self):
        self.assertIs(Dyadic(1, 40).less(Dyadic(MOST)), True)
        self.assertIs(Dyadic(-1, 40).less(Dyadic(1, 40)), True)
        self.assertIs(Dyadic(MOST - 1, 40).less(Dyadic(1)), True)
        self.assertIs(Dyadic(1).less(Dyadic(MOST - 1, 40)), False)
        self.assertIs(Dyadic(MOST - 3, 40).less(Dyadic(MOST - 1, 40)), True)
        self.assertIs(Dyadic(MOST).same(Dyadic(MOST)), True)
        self.assertIs(Dyadic(MOST, 1).same(Dyadic(MOST // 2)), True)
        self.assertIs(Dyadic(1, 39).same(Dyadic(1, 40)), False)


class TextTest(unittest.TestCase):
    """Point 1.3."""

    NONE = [
        "03", "+3", "-0", "2/4", "3/1", "1/3", "1/-2", "3/", " 3", "", "-", "/", "-/", "/2", "-/2", "--3", "3-", "-03",
        "00", "0/1", "0/2", "-0/2", "01/2", "1/02", "1/+2", "+1/2", "1 /2", "1/ 2", "1/2 ", "1/2/2", "1//2", "1/0",
        "1/1", "2/2", "6/8", "-2/4", "3 ", "3\n", "\n3", "3\t", "\t3", "1/2\n", "1\n/2", "1_0", "1_000/2", "1.5", "1e3",
        "0x1", "one", "1/6", "1/7", "1/12", "1000000000001", "-1000000000001", "1000000000001/2", "10000000000000",
        "1/2199023255552", "1/4398046511104", "1/1099511627777", "(1)", "1,5", "- 3", "-+3", "+-3", "NaN", "inf",
    ]

    def refused(self, text):
        with self.assertRaises(BadText):
            Dyadic.from_text(text)

    def test_named_texts(self):
        texts = {
            "3": (3, 0), "-1/2": (-1, 1), "5/8": (5, 3), "0": (0, 0), "-3": (-3, 0), "10": (10, 0), "-17/4": (-17, 2),
            "1000000000000": (MOST, 0), "-1000000000000": (-MOST, 0), "1/1099511627776": (1, 40),
            "999999999999/1099511627776": (MOST - 1, 40), "-999999999999/2": (1 - MOST, 1),
        }
        for text, pair in texts.items():
            self.assertEqual(Dyadic(*pair).text(), text)
            self.assertEqual(told(Dyadic.from_text(text)), pair)
            self.assertIs(type(Dyadic.from_text(text)), Dyadic)

    def test_there_and_back(self):
        numbers = many_numbers() + [Dyadic(top, power) for top in (MOST, -MOST, MOST - 1) for power in range(41)]
        for number in numbers:
            text = number.text()
            fraction = value(number)
            self.assertEqual(text, str(fraction))
            self.assertEqual(told(Dyadic.from_text(text)), told(number))

    def test_texts_of_none(self):
        for text in self.NONE:
            self.refused(text)

    def test_very_long_texts(self):
        for text in ("1" * 10000, "0" * 10000, "-" + "9" * 5000, "1/" + "2" * 5000, "1/" + str(2 ** 20000 // 10 ** 2000),
                     "3/" + "1" * 4400, "1" * 5000 + "/2", "-" * 5000, "/" * 5000, " " * 5000, "0" * 5000 + "3"):
            self.refused(text)

    def test_texts_with_one_character_changed(self):
        signs = "0123456789-+/ .\n\tx_*^{}"
        for text in ("3", "-1/2", "5/8", "12", "0", "-7", "1/16", "-13/4"):
            changed = set()
            for at in range(len(text) + 1):
                changed.update(text[:at] + sign + text[at:] for sign in signs)
                if at < len(text):
                    changed.add(text[:at] + text[at + 1:])
                    changed.update(text[:at] + sign + text[at + 1:] for sign in signs)
            for other in sorted(changed):
                if self.is_text(other):
                    self.assertEqual(Dyadic.from_text(other).text(), other)
                else:
                    self.refused(other)

    def is_text(self, text):
        """Whether this is the text of a number: reading it by hand and writing it again gives it."""
        top, slash, bottom = text.partition("/")
        digits = top[1:] if top.startswith("-") else top
        if not digits or any(sign not in "0123456789" for sign in digits):
            return False
        if slash and bottom not in [str(2 ** power) for power in range(1, 41)]:
            return False
        return str(Fraction(int(top), int(bottom) if slash else 1)) == text and abs(int(top)) <= MOST

    def test_objects_that_are_no_strings(self):
        for thing in odd_things() + [0, 3, -1, Dyadic(3), 10 ** 5000]:
            self.refused(thing)


class AgeTest(unittest.TestCase):
    """Point 1.4."""

    def test_named_ages(self):
        for top, power, expected in ((0, 0, 0), (-3, 0, 3), (1, 1, 2), (-3, 2, 3), (5, 1, 4)):
            self.assertEqual(Dyadic(top, power).age(), expected)

    def test_ages(self):
        for number in many_numbers():
            self.assertEqual(number.age(), age(value(number)))
            self.assertEqual((-number).age(), number.age())
            self.assertIs(type(number.age()), int)

    def test_just_beside_integers(self):
        for whole in (1, 2, 7, 10 ** 6):
            for power in (1, 5, 18):
                beside = Dyadic(whole * 2 ** power - 1, power)
                self.assertEqual((beside.age(), (-beside).age()), (whole + power, whole + power))
                beside = Dyadic(whole * 2 ** power + 1, power)
                self.assertEqual((beside.age(), (-beside).age()), (whole + power + 1, whole + power + 1))

    def test_great_numbers(self):
        self.assertEqual(Dyadic(MOST).age(), MOST)
        self.assertEqual(Dyadic(-MOST).age(), MOST)
        self.assertEqual(Dyadic(MOST - 1, 1).age(), MOST // 2 - 1 + 2)
        self.assertEqual(Dyadic(1, 40).age(), 41)
        self.assertEqual(Dyadic(-1, 40).age(), 41)
        self.assertEqual(Dyadic(MOST - 1, 40).age(), 41)


class SimplestTest(unittest.TestCase):
    """Point 1.5."""

    def setUp(self):
        self.enterContext(soon())

    def between(self, low, high):
        number = simplest_between(low, high)
        self.assertIs(type(number), Dyadic)
        self.assertTrue(low is None or low.less(number))
        self.assertTrue(high is None or number.less(high))
        return number

    def test_all_pairs_of_small_bounds(self):
        bounds = [None] + [Dyadic(top, power) for top in range(-9, 10) for power in (0, 1, 2)]
        for low in bounds:
            for high in bounds:
                if low is None or high is None or low.less(high):
                    expected = simplest(low and value(low), high and value(high))
                    self.assertEqual(value(self.between(low, high)), expected)
                else:
                    with self.assertRaises(BadValue):
                        simplest_between(low, high)

    def test_chosen_pairs_of_bounds(self):
        chance = random.Random(7)
        for _ in range(300):
            power = chance.randint(0, 7)
            top = chance.randint(-5 * 2 ** power, 5 * 2 ** power)
            low = Dyadic(top, power)
            high = Dyadic(top + chance.randint(1, 3), power)
            self.assertEqual(value(self.between(low, high)), simplest(value(low), value(high)))

    def test_no_number_between_is_younger(self):
        chance = random.Random(8)
        for _ in range(200):
            low = Dyadic(chance.randint(-MOST, MOST), chance.randint(20, 40))
            high = Dyadic(chance.randint(-MOST, MOST), chance.randint(20, 40))
            if not low.less(high):
                low, high = high, low
            if low.same(high):
                continue
            number = self.between(low, high)
            for power in range(number.power + 3):
                for start in (low, high, number):
                    near = start.top * 2 ** power // 2 ** start.power
                    for top in range(near - 2, near + 3):
                        other = Fraction(top, 2 ** power)
                        if value(low) < other < value(high) and other != value(number):
                            self.assertLess(number.age(), age(other))

    def test_named_bounds(self):
        pairs = [
            (None, None, "0"), (None, (1, 0), "0"), ((-1, 0), None, "0"), ((0, 0), None, "1"), (None, (0, 0), "-1"),
            ((0, 0), (1, 0), "1/2"), ((-1, 0), (0, 0), "-1/2"), ((-1, 0), (1, 0), "0"), ((1, 2), (7, 3), "1/2"),
            (None, (-5, 1), "-3"), ((5, 1), None, "3"), ((2, 0), None, "3"), (None, (-2, 0), "-3"),
            ((1, 1), (1, 0), "3/4"), ((0, 0), (1, 39), "1/1099511627776"), ((7, 3), (9, 3), "1"),
            ((3, 0), (100, 0), "4"), ((-100, 0), (-3, 0), "-4"), ((-MOST, 0), (MOST, 0), "0"),
            ((999, 0), (MOST, 0), "1000"), ((-MOST, 0), (-999, 0), "-1000"), ((MOST - 1, 0), None, "1000000000000"),
            (None, (1 - MOST, 0), "-1000000000000"), ((MOST - 2, 0), (MOST, 0), "999999999999"),
            ((-1, 40), (1, 40), "0"), ((1, 40), (3, 40), "1/549755813888"), ((-1, 1), None, "0"),
            (None, (1, 40), "0"), ((5, 3), (3, 2), "11/16"), ((-3, 2), (-5, 3), "-11/16"), ((1, 40), (1, 0), "1/2"),
            ((-3, 40), (-1, 40), "-1/549755813888"), ((-1, 0), (-1, 40), "-1/2"),
        ]
        for low, high, text in pairs:
            number = self.between(low and Dyadic(*low), high and Dyadic(*high))
            self.assertEqual(number.text(), text)

    def test_bounds_that_are_equal_or_turned_around(self):
        for low, high in (((0, 0), (0, 0)), ((1, 0), (0, 0)), ((1, 1), (1, 1)), ((3, 2), (1, 2)), ((-1, 0), (-2, 0)),
                          ((2, 1), (1, 0)), ((1, 40), (-1, 40)), ((MOST, 0), (-MOST, 0)), ((1, 39), (1, 40))):
            with self.assertRaises(BadValue):
                simplest_between(Dyadic(*low), Dyadic(*high))


if __name__ == "__main__":
    unittest.main()

"""What parts 4 to 8 of the document say, worked out anew by their words, slowly and for small games."""

from fractions import Fraction

from sumsplay.dyadic import Dyadic
from sumsplay.forms import Forms
from sumsplay.order import Order
from sumsplay.sums import Sums
from sumsplay.values import Values
from sumsplay.yard import Yard
from tests.worked import Worked

SIDES = ("left", "right")


def foe(side):
    return "right" if side == "left" else "left"


def new_values():
    """A Values object with a new yard and all that it stands on."""
    return Values(Sums(Forms(Order(Yard()))))


def forms_alone(yard):
    """A Forms object that was not told which games of the yard were made as sums."""
    return Forms(Order(yard))


def fraction(dyadic):
    """The number that a Dyadic is."""
    return Fraction(dyadic.top, 2 ** dyadic.power)


def dyadic(number):
    """The Dyadic of a number, which may be a Fraction."""
    number = Fraction(number)
    return Dyadic(number.numerator, number.denominator.bit_length() - 1)


def age(number):
    """The age of a number by the words of point 1.4."""
    number = abs(Fraction(number))
    if number.denominator == 1:
        return int(number)
    return number.numerator // number.denominator + number.denominator.bit_length()


def numbers_of_age(most):
    """All dyadic numbers of at most this age."""
    found = set()
    for power in range(most + 1):
        for top in range(-most * 2 ** power, most * 2 ** power + 1):
            number = Fraction(top, 2 ** power)
            if age(number) <= most:
                found.add(number)
    return sorted(found)


def form(yard, number):
    """The form of a number by the words of point 6.1."""
    number = Fraction(number)
    if number == 0:
        return 0
    if number.denominator == 1:
        below = form(yard, number - 1 if number > 0 else number + 1)
        return yard.game([below], []) if number > 0 else yard.game([], [below])
    step = Fraction(1, number.denominator)
    return yard.game([form(yard, number - step)], [form(yard, number + step)])


class Anew(Worked):
    """Steps, simplest forms, numbers, stops and walls of the games of a yard."""

    def __init__(self, yard):
        super().__init__(yard)
        self.numbers = {}

    def as_good(self, one, other, side):
        """Point 4.1."""
        return self.at_least(one, other) if side == "left" else self.at_least(other, one)

    def alike(self, one, other):
        return self.at_least(one, other) and self.at_least(other, one)

    def steps(self, game):
        """Points 4.2 and 4.3."""
        drops, backs = [], []
        for side in SIDES:
            options = self.options(game, side)
            for option in options:
                if any(self.as_good(other, option, side) for other in options if other != option):
                    drops.append(("drop", side, option))
                for answer in self.options(option, foe(side)):
                    if self.as_good(answer, game, foe(side)):
                        backs.append(("back", side, option, answer))
        return drops + backs

    def taken(self, game, step):
        """The left and the right options of the game behind a step, two sets (point 4.4)."""
        sides = {side: set(self.options(game, side)) for side in SIDES}
        sides[step[1]].discard(step[2])
        if step[0] == "back":
            sides[step[1]].update(self.options(step[3], step[1]))
        return sides["left"], sides["right"]

    def simplest(self, game, chance):
        """The end of replacements in any order (points 4.5 and 4.6)."""
        while True:
            open_ones = [follower for follower in self.yard.followers(game) if self.steps(follower)]
            if not open_ones:
                return game
            old = chance.choice(open_ones)
            lefts, rights = self.taken(old, chance.choice(self.steps(old)))
            game = self.replaced(game, old, self.yard.game(list(lefts), list(rights)))

    def replaced(self, game, old, new):
        """The game in which a follower is replaced by another game, wherever it is."""
        made = {old: new}
        for follower in sorted(self.yard.followers(game), key=self.yard.height):
            if follower not in made:
                sides = [[made[option] for option in self.options(follower, side)] for side in SIDES]
                made[follower] = self.yard.game(*sides)
        return made[game]

    def is_simplest(self, game):
        return not any(self.steps(follower) for follower in self.yard.followers(game))

    def number_of(self, game):
        """Which number a game is, or None (point 6.2). A number is no older than the game is high."""
        if game not in self.numbers:
            fits = [number for number in numbers_of_age(self.yard.height(game))
                    if self.alike(game, form(self.yard, number))]
            self.numbers[game] = fits[0] if fits else None
        return self.numbers[game]

    def stops(self, game):
        """Both stops, by the words of point 6.7."""
        number = self.number_of(game)
        if number is not None:
            return number, number
        return (max(self.stops(option)[1] for option in self.options(game, "left")),
                min(self.stops(option)[0] for option in self.options(game, "right")))


class Warm:
    """The walls of games by the words of point 7.4, as the lists of their places at many temperatures.

    Every temperature at which a wall of the game bends has to be among these, `step` apart, up to `most`.
    """

    def __init__(self, anew, step, most):
        self.anew = anew
        self.heats = [step * at for at in range(int(most / step) + 1)]
        self.known = {}

    def told(self, game):
        """The left wall, the right wall and the heat, None for a number."""
        if game not in self.known:
            self.known[game] = self.worked(game)
        return self.known[game]

    def worked(self, game):
        number = self.anew.number_of(game)
        if number is not None:
            return [number] * len(self.heats), [number] * len(self.heats), None
        rights = [self.told(option)[1] for option in self.anew.options(game, "left")]
        lefts = [self.told(option)[0] for option in self.anew.options(game, "right")]
        upper = [max(places) - heat for heat, *places in zip(self.heats, *rights)]
        lower = [min(places) + heat for heat, *places in zip(self.heats, *lefts)]
        at = min(at for at in range(len(self.heats)) if upper[at] <= lower[at])
        # If the temperatures are close enough, the lines meet at one of them.
        assert upper[at] == lower[at]
        level = [upper[at]] * (len(self.heats) - at)
        return upper[:at] + level, lower[:at] + level, self.heats[at]

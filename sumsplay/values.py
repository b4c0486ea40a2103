"""Numbers, heaps, ups and stops among games."""

from sumsplay.dyadic import Dyadic
from sumsplay.dyads import Dyads
from sumsplay.errors import BadValue
from sumsplay.whole import is_whole

MOST_NUMBER = 64
MOST_FORM_POWER = 12
MOST_SIZE = 40
MOST_UPS = 12


class Values:
    """The numbers, heaps and stops among the games of a yard, also of those that are made later."""

    def __init__(self, sums):
        self.sums = sums
        self._forms = sums.forms
        self._yard = sums.yard
        self._dyads = Dyads(sums.yard)
        self._heaps = [0]
        # From simplest games to their left and right stops.
        self._stops = {}

    @property
    def forms(self):
        """The Forms object with the simplest forms of the games."""
        return self._forms

    @property
    def yard(self):
        """The yard of the games."""
        return self._yard

    def number(self, dyadic):
        """The number of the game that is the form of a Dyadic within the bounds (point 6.1)."""
        most = Dyadic(MOST_NUMBER)
        if dyadic.less(-most) or most.less(dyadic) or dyadic.power > MOST_FORM_POWER:
            raise BadValue("the number is not from -64 to 64, or its power is above 12")
        return self.form(dyadic)

    def form(self, dyadic):
        """The number of the game that is the form of a Dyadic of any size and power (point 6.1)."""
        return self._dyads.form(dyadic)

    def number_of(self, game):
        """Which number the game is, a Dyadic, or None (point 6.2)."""
        return self._dyads.number_of(self._forms.simplest(game))

    def heap(self, size):
        """The number of the game that is the heap of this size (point 6.5)."""
        _check_whole(size, 0, MOST_SIZE)
        while len(self._heaps) <= size:
            self._heaps.append(self._yard.game(self._heaps, self._heaps))
        return self._heaps[size]

    def heap_of(self, game):
        """The size of the heap that the game is alike to, or None."""
        simplest = self._forms.simplest(game)
        size = len(self._yard.lefts(simplest))
        # Heaps are simplest games, and the heap of a size has as many options on each side.
        if size <= MOST_SIZE and self.heap(size) == simplest:
            return size
        return None

    def up(self, count, size=0):
        """The number of the simplest form of the sum of some ups and the heap of a size (point 6.6)."""
        _check_whole(count, -MOST_UPS, MOST_UPS)
        _check_whole(size, 0, MOST_SIZE)
        up = self._yard.game([0], [self.heap(1)])
        copied = up if count >= 0 else self._yard.turned(up)
        return self.sums.plain([copied] * abs(count) + [self.heap(size)])

    def left_stop(self, game):
        """The left stop, a Dyadic (point 6.7)."""
        left, _ = self._both_stops(game)
        return left

    def right_stop(self, game):
        """The right stop, a Dyadic (point 6.7)."""
        _, right = self._both_stops(game)
        return right

    def is_small(self, game):
        """Whether both stops are 0 (point 6.9)."""
        left, right = self._both_stops(game)
        return left.same(Dyadic(0)) and right.same(Dyadic(0))

    def _both_stops(self, game):
        """The left and the right stop of a game. Alike games have the same ones (point 6.8)."""
        simplest = self._forms.simplest(game)
        waiting = self._yard.reached(simplest, self._stops)
        for follower in waiting:
            number = self._dyads.number_of(follower)
            if number is None:
                self._stops[follower] = self._worked(follower)
            else:
                self._stops[follower] = (number, number)
        return self._stops[simplest]

    def _worked(self, game):
        """The left and the right stop of a game that is not a number, the options of which are told already."""
        left = _greatest([self._stops[option][1] for option in self._yard.lefts(game)])
        right = -_greatest([-self._stops[option][0] for option in self._yard.rights(game)])
        return left, right


def _greatest(numbers):
    """The greatest one of some dyadics, at least one."""
    found = numbers[0]
    for number in numbers:
        if found.less(number):
            found = number
    return found


def _check_whole(thing, least, most):
    """Raises BadValue if any Python object is not an integer within bounds; True and False are none."""
    if not is_whole(thing, least, most):
        raise BadValue("this is not an integer within the bounds")

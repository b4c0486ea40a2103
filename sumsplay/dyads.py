"""The numbers among the simplest games of a yard."""

from sumsplay.dyadic import Dyadic, exact, simplest_between
from sumsplay.worked import work_out


class Dyads:
    """Which simplest games of a yard are numbers, and which games the forms of numbers are."""

    def __init__(self, yard):
        self._yard = yard
        # From simplest games to their numbers, or None, and from the top and power of numbers to their forms.
        self._numbers = {0: Dyadic(0)}
        self._forms = {(0, 0): 0}

    def number_of(self, game):
        """Which number a simplest game is, a Dyadic, or None (point 6.2)."""
        waiting = self._yard.reached(game, self._numbers)
        for follower in waiting:
            self._numbers[follower] = self._told(follower)
        return self._numbers[game]

    def form(self, number):
        """The number of the game that is the form of a Dyadic of any size and power (point 6.1)."""
        return work_out(self._forms, (number.top, number.power), _neighbours, self._make)

    def _told(self, game):
        """Which number a simplest game is, or None. Its options are told already."""
        lefts = [self._numbers[option] for option in self._yard.lefts(game)]
        rights = [self._numbers[option] for option in self._yard.rights(game)]
        # A simplest form that is a number has no other options than numbers, and these one by one on a side,
        # as of several numbers all but one could be dropped.
        if None in lefts or None in rights:
            return None
        low = lefts[0] if lefts else None
        high = rights[0] if rights else None
        if low is not None and high is not None and not low.less(high):
            return None
        return simplest_between(low, high)

    def _make(self, key, lefts, rights):
        return self._yard.game(lefts, rights)


def _neighbours(key):
    """The numbers of the left and the right options of the form of a number, each told by its top and power."""
    number = exact(key[0], key[1])
    step = exact(1, number.power)
    low, high = number - step, number + step
    lefts = [(low.top, low.power)]
    rights = [(high.top, high.power)]
    if number.power > 0:
        return lefts, rights
    return (lefts, []) if number.top > 0 else ([], rights)

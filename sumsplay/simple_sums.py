"""The simplest forms of sums, worked out from simplest forms alone."""

from sumsplay.dyadic import Dyadic
from sumsplay.dyads import Dyads
from sumsplay.worked import work_out


class SimpleSums:
    """Sums of simplest forms (point 5.5), in the yard in which these stand.

    `reduced(lefts, rights)` tells the simplest form of the game with these options, which are simplest forms.
    """

    def __init__(self, yard, reduced):
        self._yard = yard
        self._reduced = reduced
        self._dyads = Dyads(yard)
        # From pairs of forms, the one with the lesser number first, to the simplest forms of their sums.
        self._sums = {}

    def total(self, forms):
        """The simplest form of the sum of some simplest forms."""
        number = Dyadic(0)
        others = []
        for form in forms:
            told = self._dyads.number_of(form)
            if told is not None:
                number = number + told
            elif self._yard.turned(form) in others:
                others.remove(self._yard.turned(form))
            else:
                others.append(form)
        # Equal forms stand side by side, so that their sums are worked out once.
        total = 0
        for form in sorted(others):
            total = self._plus(total, form)
        return self._plus(total, self._dyads.form(number))

    def _plus(self, one, other):
        """The simplest form of the sum of two simplest forms."""
        return work_out(self._sums, self._pair(one, other), self._options, self._make)

    def _pair(self, one, other):
        """The key of the sum of two forms. It keeps the sum if this is plain to see."""
        pair = (min(one, other), max(one, other))
        if pair not in self._sums:
            told = self._plain_to_see(one, other)
            if told is not None:
                self._sums[pair] = told
        return pair

    def _plain_to_see(self, one, other):
        """The simplest form of the sum if one form is 0, both are numbers, or they cancel out; otherwise None."""
        if one == 0 or other == 0:
            return one + other
        first, second = self._dyads.number_of(one), self._dyads.number_of(other)
        if first is not None and second is not None:
            return self._dyads.form(first + second)
        return 0 if self._yard.turned(one) == other else None

    def _options(self, pair):
        """The keys of the left and the right options of a sum."""
        lefts, rights = [], []
        for one, other in (pair, (pair[1], pair[0])):
            # A number need not be moved in where it lies beside a game that is no number: that is never better.
            if self._dyads.number_of(one) is None:
                lefts.extend([self._pair(option, other) for option in self._yard.lefts(one)])
                rights.extend([self._pair(option, other) for option in self._yard.rights(one)])
        return lefts, rights

    def _make(self, pair, lefts, rights):
        return self._reduced(lefts, rights)

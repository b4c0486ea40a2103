"""Which of some simplest forms are the best ones for a side."""

from sumsplay.sides import SIDES


class Ranks:
    """Picks the best of some unlike simplest forms, as a Pairs object orders them.

    Each form has a bit, and many forms are one integer. So forms with many options, most of which were
    compared before, need not be gone through pair by pair.
    """

    def __init__(self, pairs):
        self._pairs = pairs
        self._bits = {}
        self._forms = []
        # For each side, from forms to the bits of those that are known to be as good, and of those that were asked.
        self._better = {"left": {}, "right": {}}
        self._asked = {"left": {}, "right": {}}

    def best(self, forms, side):
        """Those forms than which no other one of them is at least as good for the side, in their order."""
        left = 0
        for form in forms:
            left = left | self._bit(form)
        found = []
        for form in forms:
            bit = self._bits[form]
            if self._is_matched(form, left ^ bit, side):
                left = left ^ bit
            else:
                found.append(form)
        return found

    def as_good(self, one, other, side):
        """Whether one form is at least as good for a side as another one (point 4.1)."""
        if side == "left":
            return self._pairs.at_least(one, other)
        return self._pairs.at_least(other, one)

    def _bit(self, form):
        if form not in self._bits:
            self._bits[form] = 1 << len(self._forms)
            self._forms.append(form)
            for side in SIDES:
                self._better[side][form] = 0
                self._asked[side][form] = 0
        return self._bits[form]

    def _is_matched(self, form, others, side):
        """Whether one of the others, told by their bits, is at least as good as a form."""
        better, asked = self._better[side], self._asked[side]
        if better[form] & others:
            return True
        waiting = others & ~asked[form]
        while waiting:
            bit = waiting & -waiting
            waiting = waiting ^ bit
            asked[form] = asked[form] | bit
            if self.as_good(self._forms[bit.bit_length() - 1], form, side):
                better[form] = better[form] | bit
                return True
        return False

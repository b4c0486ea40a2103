"""Rows of toads and frogs, which step and jump towards each other."""

from sumsplay.errors import BadValue

MOST_PLACES = 12
SIGNS = ("T", "F", ".")
FREE = "."
# Whom a side moves, over whom these jump, and how far to the right the next place is.
MOVERS = {"left": ("T", "F", 1), "right": ("F", "T", -1)}


class Frogs:
    """A row of toads and frogs (point 8.7). It does not change."""

    def __init__(self, line):
        if type(line) is not str or len(line) > MOST_PLACES:
            raise BadValue("this is not a string of at most 12 places")
        if not all([sign in SIGNS for sign in line]):
            raise BadValue("a place has no toad and no frog and is not free")
        self._line = line

    def moves(self, side):
        """The rows that a side can move to, by ascending places of the toad or frog that moves."""
        mover, jumped, step = MOVERS[side]
        found = []
        for place, sign in enumerate(self._line):
            if sign == mover:
                target = self._target(place, jumped, step)
                if target is not None:
                    found.append(self._moved(place, target))
        return found

    def value(self):
        """The value of the row (point 8.2)."""
        return "frogs", self._line

    def parts(self):
        """The row itself, or nothing if nobody can move (point 8.7)."""
        return [self] if self.moves("left") or self.moves("right") else []

    def _target(self, place, jumped, step):
        """The free place to which the toad or frog at a place can move, or None."""
        beside = self._sign(place + step)
        if beside == FREE:
            return place + step
        if beside == jumped and self._sign(place + 2 * step) == FREE:
            return place + 2 * step
        return None

    def _sign(self, place):
        """What is at a place, or None if the row has no such place."""
        return self._line[place] if 0 <= place < len(self._line) else None

    def _moved(self, place, target):
        """The row in which the toad or frog at a place is at another place."""
        signs = list(self._line)
        signs[place], signs[target] = FREE, signs[place]
        return Frogs("".join(signs))

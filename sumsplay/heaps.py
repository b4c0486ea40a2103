"""Boards of heaps, from which both sides take."""

from sumsplay.errors import BadValue
from sumsplay.whole import is_whole

MOST_HEAPS = 8
MOST_SIZE = 30


class Heaps:
    """A board of heaps (point 8.4). It does not change."""

    def __init__(self, sizes):
        if type(sizes) is not list or len(sizes) > MOST_HEAPS:
            raise BadValue("this is not a list of at most 8 heaps")
        for size in sizes:
            if not is_whole(size, 0, MOST_SIZE):
                raise BadValue("the size of a heap is not an integer from 0 to 30")
        self._sizes = tuple(sizes)

    def moves(self, side):
        """The boards that a side can move to. Both sides can move to the same ones."""
        found = []
        for place, size in enumerate(self._sizes):
            for left in range(size - 1, -1, -1):
                found.append(Heaps([*self._sizes[:place], left, *self._sizes[place + 1:]]))
        return found

    def value(self):
        """The value of the board (point 8.2)."""
        return "heaps", self._sizes

    def parts(self):
        """The heaps that are not empty, each a board of its own (point 8.3)."""
        return [Heaps([size]) for size in self._sizes if size > 0]

"""Cakes, which are cut between their columns and between their rows."""

from sumsplay.errors import BadValue
from sumsplay.whole import is_whole

MOST_SQUARES = 144
MOST_LENGTH = 12


class Cakes:
    """Some cakes (point 8.8). They do not change."""

    def __init__(self, cakes):
        if type(cakes) is not list:
            raise BadValue("this is not a list of cakes")
        for cake in cakes:
            _check_cake(cake)
        if sum([rows * columns for rows, columns in cakes]) > MOST_SQUARES:
            raise BadValue("the cakes have more than 144 squares together")
        self._cakes = tuple(cakes)

    def moves(self, side):
        """The boards that a side can move to, by ascending places of the cake and then sizes of the first piece."""
        found = []
        for place, cake in enumerate(self._cakes):
            # Nothing has to be left out: only behind the cuts of this cake there is another one at its place.
            for first, second in _cuts(cake, side):
                found.append(Cakes([*self._cakes[:place], first, second, *self._cakes[place + 1:]]))
        return found

    def value(self):
        """The value of the board (point 8.2)."""
        return "cakes", self._cakes

    def parts(self):
        """The cakes that somebody can cut, each a board of its own (point 8.8)."""
        return [Cakes([cake]) for cake in self._cakes if cake != (1, 1)]


def _check_cake(cake):
    """Raises BadValue if any Python object is not a cake."""
    if type(cake) is not tuple or len(cake) != 2:
        raise BadValue("a cake is not a tuple of two")
    for length in cake:
        if not is_whole(length, 1, MOST_LENGTH):
            raise BadValue("the rows or columns of a cake are not an integer from 1 to 12")


def _cuts(cake, side):
    """The pairs of pieces into which a side can cut a cake."""
    rows, columns = cake
    if side == "left":
        return [((rows, first), (rows, columns - first)) for first in range(1, columns)]
    return [((first, columns), (rows - first, columns)) for first in range(1, rows)]

"""Tables, which tell row by row where the sides can move."""

from sumsplay.errors import BadValue
from sumsplay.whole import is_whole

MOST_ROWS = 40


class Table:
    """A place of a table (point 8.9). It does not change."""

    def __init__(self, rows, place):
        if type(rows) is not list or not 1 <= len(rows) <= MOST_ROWS:
            raise BadValue("this is not a list of 1 to 40 rows")
        for at, row in enumerate(rows):
            _check_row(row, at, len(rows))
        if not is_whole(place, 0, len(rows) - 1):
            raise BadValue("the place is not the index of a row")
        self._rows = tuple(rows)
        self._place = place

    def moves(self, side):
        """The same table with the places that a side can move to, ascending."""
        lefts, rights = self._rows[self._place]
        places = lefts if side == "left" else rights
        return [self._moved(place) for place in places]

    def value(self):
        """The value of the board (point 8.2)."""
        return "table", self._rows, self._place

    def parts(self):
        """The board itself, or nothing if nobody can move (point 8.9)."""
        return [self] if self._rows[self._place] != ((), ()) else []

    def _moved(self, place):
        """The same table with another place. Its rows, which may be long, need not be checked again."""
        board = Table([((), ())], 0)
        board._rows = self._rows
        board._place = place
        return board


def _check_row(row, at, count):
    """Raises BadValue if any Python object is not the row at a place of a table of as many rows."""
    if type(row) is not tuple or len(row) != 2:
        raise BadValue("a row is not a tuple of two")
    for places in row:
        if type(places) is not tuple:
            raise BadValue("the places of a side are not a tuple")
        least = at + 1
        for place in places:
            if not is_whole(place, least, count - 1):
                raise BadValue("the places of a side do not ascend, or are not rows behind their own row")
            least = place + 1

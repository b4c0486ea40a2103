"""Floors: free cells that are covered two by two."""

from sumsplay.errors import BadValue

MOST_CELLS = 6
FREE = "."
COVERED = "#"
# How far the second cell that a side covers is below and to the right of the first one.
SHAPES = {"left": (1, 0), "right": (0, 1)}
NEXT_CELLS = ((-1, 0), (0, -1), (0, 1), (1, 0))


class Floor:
    """A floor (point 8.6). It does not change."""

    def __init__(self, rows):
        if type(rows) is not list or not 1 <= len(rows) <= MOST_CELLS:
            raise BadValue("this is not a list of 1 to 6 rows")
        for row in rows:
            if type(row) is not str or not 1 <= len(row) <= MOST_CELLS or len(row) != len(rows[0]):
                raise BadValue("the rows are not strings of the same length from 1 to 6")
            if not all([cell in (FREE, COVERED) for cell in row]):
                raise BadValue("a cell is neither free nor covered")
        self._rows = tuple(rows)

    def moves(self, side):
        """The floors that a side can move to, by ascending rows and then columns of the first cell covered."""
        down, right = SHAPES[side]
        found = []
        for row, column in self._cells():
            second = (row + down, column + right)
            if self._is_free(row, column) and self._is_free(second[0], second[1]):
                found.append(self._covered([(row, column), second]))
        return found

    def value(self):
        """The value of the floor (point 8.2)."""
        return "floor", self._rows

    def parts(self):
        """The floors of those free cells that hang together, at least two (point 8.3)."""
        found = []
        seen = {}
        for row, column in self._cells():
            if self._is_free(row, column) and (row, column) not in seen:
                together = self._together((row, column))
                for cell in together:
                    seen[cell] = True
                if len(together) > 1:
                    found.append(_rectangle(together))
        return found

    def _cells(self):
        """The rows and columns of all cells, by ascending rows and then columns."""
        return [(row, column) for row in range(len(self._rows)) for column in range(len(self._rows[0]))]

    def _is_free(self, row, column):
        """Whether there is a free cell at a row and a column, which may be off the floor."""
        if 0 <= row < len(self._rows) and 0 <= column < len(self._rows[0]):
            return self._rows[row][column] == FREE
        return False

    def _covered(self, cells):
        """The floor on which some further cells are covered."""
        rows = [list(row) for row in self._rows]
        for row, column in cells:
            rows[row][column] = COVERED
        return Floor(["".join(row) for row in rows])

    def _together(self, cell):
        """The free cells that hang together with a free cell, as a dict of True."""
        found = {cell: True}
        waiting = [cell]
        while waiting:
            row, column = waiting.pop()
            for down, right in NEXT_CELLS:
                beside = (row + down, column + right)
                if self._is_free(beside[0], beside[1]) and beside not in found:
                    found[beside] = True
                    waiting.append(beside)
        return found


def _rectangle(cells):
    """The least floor with these cells free, a dict, in which all others are covered."""
    rows = [row for row, _ in cells]
    columns = [column for _, column in cells]
    found = []
    for row in range(min(rows), max(rows) + 1):
        signs = [FREE if (row, column) in cells else COVERED for column in range(min(columns), max(columns) + 1)]
        found.append("".join(signs))
    return Floor(found)

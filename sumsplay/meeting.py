"""Meetings: several boards side by side."""

from sumsplay.boards import board_of, is_board
from sumsplay.errors import BadValue

MOST_BOARDS = 8


class Meeting:
    """A meeting (point 9.5). It does not change."""

    def __init__(self, boards):
        if type(boards) is not list or len(boards) > MOST_BOARDS:
            raise BadValue("this is not a list of at most 8 boards")
        for board in boards:
            if not is_board(board):
                raise BadValue("this is not a board")
        self._boards = tuple(boards)

    def boards(self):
        """The list of the boards."""
        return list(self._boards)

    def moves(self, side):
        """The moves of a side, pairs of the place and the board that stands there behind the move."""
        found = []
        for place, board in enumerate(self._boards):
            found.extend([(place, other) for other in board.moves(side)])
        return found

    def moved(self, place, board):
        """The meeting with this board in the place of the one at this place."""
        boards = list(self._boards)
        boards[place] = board
        return Meeting(boards)

    def value(self):
        """The value of the meeting (point 9.6)."""
        return tuple([board.value() for board in self._boards])

    @staticmethod
    def from_value(value):
        """The meeting that has this value; raises BadValue if there is none."""
        if type(value) is not tuple or len(value) > MOST_BOARDS:
            raise BadValue("this is not a tuple of at most 8 values")
        return Meeting([board_of(part) for part in value])

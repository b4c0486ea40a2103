"""Matches: meetings that are played."""

from sumsplay.errors import BadValue, NoMove
from sumsplay.meeting import Meeting
from sumsplay.sides import SIDES, other_side
from sumsplay.whole import is_whole


class Match:
    """A match (point 9.10)."""

    def __init__(self, meeting, first):
        if type(first) is not str or first not in SIDES:
            raise BadValue("the first side is neither left nor right")
        self._first = first
        # The meetings behind the moves that stand, the one with which the match began at first.
        self._meetings = [meeting]
        self._indexes = []

    @property
    def turn(self):
        """The side whose turn it is."""
        return self._first if len(self._indexes) & 1 == 0 else other_side(self._first)

    @property
    def meeting(self):
        """The meeting as it stands."""
        return self._meetings[-1]

    def moves(self):
        """The moves of the side whose turn it is."""
        return self.meeting.moves(self.turn)

    def play(self, index):
        """Does the move with this index."""
        moves = self.moves()
        if not is_whole(index, 0, len(moves) - 1):
            raise NoMove("there is no move with this index")
        place, board = moves[index]
        self._meetings.append(self.meeting.moved(place, board))
        self._indexes.append(index)

    def back(self):
        """Takes the last move back."""
        if not self._indexes:
            raise NoMove("no move stands")
        self._indexes.pop()
        self._meetings.pop()

    def winner(self):
        """The side that has won, or None if the side whose turn it is has a move."""
        return None if self.moves() else other_side(self.turn)

    def record(self):
        """The list of the indexes of the moves that stand."""
        return list(self._indexes)

    def value(self):
        """The value of the match (point 9.11)."""
        return self._meetings[0].value(), self._first, tuple(self._indexes)

    @staticmethod
    def from_value(value):
        """The match that has this value; raises BadValue if there is none."""
        if type(value) is not tuple or len(value) != 3 or type(value[2]) is not tuple:
            raise BadValue("this is not the value of a match")
        told = Match(Meeting.from_value(value[0]), value[1])
        for index in value[2]:
            try:
                told.play(index)
            except NoMove:
                raise BadValue("there is no move with this index") from None
        return told

"""Who wins meetings, and how."""

from sumsplay.board_forms import BoardForms
from sumsplay.sides import other_side


class Plans:
    """What a Values object tells of meetings."""

    def __init__(self, worth):
        self.worth = worth
        self._forms = BoardForms(worth.sums)

    def game(self, meeting):
        """The number of the simplest form of the game of the meeting (point 9.7)."""
        return self._sum_of(meeting.boards())

    def winner(self, meeting, first):
        """The side that wins the meeting if a side begins (point 9.7)."""
        boards = meeting.boards()
        middle = len(boards) // 2
        # The two halves are compared (point 5.4), as the simplest form of the whole sum may be much greater.
        one = self._sum_of(boards[:middle])
        other = self.worth.yard.turned(self._sum_of(boards[middle:]))
        order = self.worth.forms.order
        loses = order.at_most(one, other) if first == "left" else order.at_least(one, other)
        return other_side(first) if loses else first

    def plan(self, meeting, side):
        """The index of the first move behind which the side is the winner, or None (point 9.8)."""
        if self.winner(meeting, side) != side:
            return None
        foe = other_side(side)
        for index, (place, board) in enumerate(meeting.moves(side)):
            if self.winner(meeting.moved(place, board), foe) == side:
                return index
        return None

    def judge(self, meeting, side, first):
        """Whether the side that plays by its plan wins every play (point 9.9)."""
        # Behind each move of its plan the side is still the winner, and behind no move of the other side it
        # ceases to be. So it has a plan whenever it is to move, exactly if it is the winner at the beginning.
        return self.winner(meeting, first) == side

    def _sum_of(self, boards):
        """The number of the simplest form of the sum of the games of some boards."""
        return self.worth.sums.plain([self._forms.form(board) for board in boards])

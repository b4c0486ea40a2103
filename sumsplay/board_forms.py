"""The simplest forms of the games of boards."""

from sumsplay.positions import Positions
from sumsplay.worked import work_out


class BoardForms:
    """The simplest forms of the games of boards, in the yard of a Sums object.

    A board is worked out from its parts alone (point 8.3). As parts come back on many boards, far fewer of
    them than boards have to be looked at.
    """

    def __init__(self, sums):
        self._sums = sums
        self._positions = Positions()
        # From the values of boards to the simplest forms of their games.
        self._forms = {}
        # The values of the boards that are worked out as sums.
        self._added = {}

    def form(self, board):
        """The number of the simplest form of the game of a board."""
        return work_out(self._forms, self._positions.key(board), self._needed, self._made)

    def _needed(self, value):
        """The values of the boards on which a board hangs: its parts, or those that the sides can move to."""
        parts = self._positions.parts(value)
        if parts == [value]:
            return self._positions.options(value)
        self._added[value] = True
        return parts, []

    def _made(self, value, forms, more_forms):
        """The simplest form of the game of a board, from those of the boards on which it hangs."""
        if value in self._added:
            return self._sums.plain(forms)
        return self._sums.forms.simplest(self._sums.yard.game(forms, more_forms))

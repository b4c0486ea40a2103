"""Boards, found again by their values."""


class Positions:
    """Keeps boards by their values. Boards of the same value are the same game, so the first one will do."""

    def __init__(self):
        self._boards = {}

    def key(self, board):
        """The value of a board, which is kept."""
        value = board.value()
        self._boards.setdefault(value, board)
        return value

    def options(self, value):
        """The values of the boards that left and right can move to from a kept board, a pair of lists."""
        board = self._boards[value]
        return self._keys(board.moves("left")), self._keys(board.moves("right"))

    def parts(self, value):
        """The values of the parts of a kept board."""
        return self._keys(self._boards[value].parts())

    def _keys(self, boards):
        return [self.key(board) for board in boards]

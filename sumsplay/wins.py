"""Who wins the games of a yard, and what this tells of their order."""


class Wins:
    """Who wins the games of a yard when it is to move. `catch_up` comes before any question."""

    def __init__(self, yard):
        self._yard = yard
        self._left = []
        self._right = []

    def catch_up(self):
        """Settles the games that the yard has kept since the last time."""
        first = len(self._left)
        # Ascending numbers will do, as a yard keeps the options of a game before the game.
        for game in range(first, self._yard.size):
            lefts = self._yard.lefts(game)
            rights = self._yard.rights(game)
            left_wins = any([not self._right[option] for option in lefts])
            right_wins = any([not self._left[option] for option in rights])
            self._left.append(left_wins)
            self._right.append(right_wins)

    def can_win(self, game, side):
        """Whether this side wins the game when it is to move (point 3.1)."""
        if side == "left":
            return self._left[game]
        return self._right[game]

    def told(self, one, other):
        """Whether one game is at least another one, as far as the winners tell it; otherwise None.

        A game that right, to move, does not win is at least 0, and one that left, to move, does not
        win is at most 0 (point 3.5). What is at least a game is at least what this game is at least.
        """
        if one == other:
            return True
        if self._left[other] and not self._left[one]:
            return False
        if self._right[one] and not self._right[other]:
            return False
        if not self._right[one] and not self._left[other]:
            return True
        return None

"""Who wins games, and the order of games."""

from sumsplay.sides import other_side
from sumsplay.simple import SimpleForms
from sumsplay.wins import Wins


class Order:
    """The order of the games of a yard, also of those that are made later."""

    def __init__(self, yard):
        self._yard = yard
        self._wins = Wins(yard)
        self._simple = SimpleForms(yard)

    @property
    def yard(self):
        """The yard whose games are ordered."""
        return self._yard

    @property
    def simple(self):
        """The SimpleForms object by which the games are ordered."""
        return self._simple

    def at_least(self, one, other):
        """Whether the first game is at least the second one (point 3.3)."""
        self._yard.check(one)
        self._yard.check(other)
        self._wins.catch_up()
        told = self._wins.told(one, other)
        if told is None:
            told = self._simple.at_least(one, other)
        return told

    def at_most(self, one, other):
        """Whether the first game is at most the second one."""
        return self.at_least(other, one)

    def alike(self, one, other):
        """Whether the two games are alike (point 3.4)."""
        return self.at_least(one, other) and self.at_least(other, one)

    def less(self, one, other):
        """Whether the first game is less than the second one."""
        return self.at_least(other, one) and not self.at_least(one, other)

    def apart(self, one, other):
        """Whether neither game is at least the other one."""
        return not self.at_least(one, other) and not self.at_least(other, one)

    def can_win(self, game, side):
        """Whether this side wins the game when it is to move (point 3.1)."""
        self._yard.check(game)
        self._wins.catch_up()
        return self._wins.can_win(game, side)

    def winning(self, game, side):
        """The options of this side that the other side, when it is to move there, does not win, ascending."""
        foe = other_side(side)
        return [option for option in self._yard.options(game, side) if not self.can_win(option, foe)]

    def outcome(self, game):
        """The outcome of the game (point 3.2)."""
        left_wins = self.can_win(game, "left")
        right_wins = self.can_win(game, "right")
        if left_wins:
            return "first" if right_wins else "left"
        return "right" if right_wins else "second"

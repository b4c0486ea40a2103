"""Yards: they keep games, each of them once, and tell them by numbers."""

from sumsplay.errors import Unknown


class Yard:
    """A yard keeps games. It keeps the options of a game before the game, so their numbers are less."""

    def __init__(self):
        self._lefts = [()]
        self._rights = [()]
        self._heights = [0]
        self._numbers = {((), ()): 0}
        self._turned = {0: 0}

    @property
    def size(self):
        """How many games the yard keeps."""
        return len(self._lefts)

    def game(self, lefts, rights):
        """The number of the game with these left and right options (point 2.1)."""
        for option in lefts:
            self.check(option)
        for option in rights:
            self.check(option)
        return self._kept(tuple(sorted(set(lefts))), tuple(sorted(set(rights))))

    def lefts(self, game):
        """The left options, ascending."""
        self.check(game)
        return list(self._lefts[game])

    def rights(self, game):
        """The right options, ascending."""
        self.check(game)
        return list(self._rights[game])

    def options(self, game, side):
        """The options of a side, "left" or "right", ascending."""
        if side == "left":
            return self.lefts(game)
        return self.rights(game)

    def height(self, game):
        """The height of a game (point 2.4)."""
        self.check(game)
        return self._heights[game]

    def followers(self, game):
        """The followers of a game, ascending (point 2.5)."""
        return self.reached(game, {})

    def turned(self, game):
        """The number of the turned game (point 2.6)."""
        waiting = self.reached(game, self._turned)
        for follower in waiting:
            self._turn(follower)
        return self._turned[game]

    def check(self, game):
        """Raises Unknown if this is not the number of a game of the yard."""
        # The message does not show the number, as Python does not write out very great integers.
        if not 0 <= game < len(self._lefts):
            raise Unknown("the yard has no game of this number")

    def reached(self, game, done):
        """The followers of a game, ascending, that rows of moves lead to past no key of the dict `done`.

        As options have lesser numbers than their games, each game stands behind its options.
        """
        self.check(game)
        if game in done:
            return []
        seen = {game}
        waiting = [game]
        while waiting:
            follower = waiting.pop()
            for option in self._lefts[follower] + self._rights[follower]:
                if option not in seen and option not in done:
                    seen.add(option)
                    waiting.append(option)
        return sorted(seen)

    def _kept(self, lefts, rights):
        """The number of the game with these options, strictly ascending tuples; keeps it if it is new."""
        options = (lefts, rights)
        if options not in self._numbers:
            self._numbers[options] = len(self._lefts)
            self._heights.append(1 + max([self._heights[option] for option in lefts + rights]))
            self._lefts.append(lefts)
            self._rights.append(rights)
        return self._numbers[options]

    def _turn(self, game):
        """Keeps the turned game of a game all of whose options are turned already."""
        lefts = [self._turned[option] for option in self._rights[game]]
        rights = [self._turned[option] for option in self._lefts[game]]
        turned = self._kept(tuple(sorted(lefts)), tuple(sorted(rights)))
        self._turned[game] = turned
        self._turned[turned] = game

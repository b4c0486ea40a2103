"""Which games of a yard are at least which ones, settled pair by pair."""

from sumsplay.wins import Wins


class Pairs:
    """The order of the games of a yard (point 3.3). `catch_up` comes before questions about new games."""

    def __init__(self, yard):
        self._yard = yard
        self._wins = Wins(yard)
        self._lefts = []
        self._rights = []
        # For each game the games that it was compared with: each pair is settled once.
        self._known = []

    def catch_up(self):
        """Reads the games that the yard has kept since the last time."""
        self._wins.catch_up()
        first = len(self._lefts)
        for game in range(first, self._yard.size):
            self._lefts.append(self._yard.lefts(game))
            self._rights.append(self._yard.rights(game))
            self._known.append({})

    def at_least(self, one, other):
        """Whether one game is at least another one."""
        told = self._known[one].get(other)
        if told is None:
            told = self._wins.told(one, other)
            if told is None:
                told = self._settled(one, other)
            self._known[one][other] = told
        return told

    def _settled(self, one, other):
        """Whether one game is at least another one, by their options."""
        # A list of pairs that wait, as Python does not nest calls as deep as heights may add up.
        waiting = [[one, other, 0]]
        while waiting:
            needed = self._settle(waiting[-1])
            if needed is None:
                waiting.pop()
            else:
                waiting.append(needed)
        return self._known[one][other]

    def _settle(self, pair):
        """Settles a pair, or returns the next pair that has to be settled before.

        A pair is a list of the two games and of how many of the pairs that it hangs on are done.
        """
        one, other, done = pair
        rights, lefts = self._rights[one], self._lefts[other]
        for at in range(done, len(rights) + len(lefts)):
            if at < len(rights):
                first, second = other, rights[at]
            else:
                first, second = lefts[at - len(rights)], one
            told = self._told(first, second)
            if told is None:
                pair[2] = at
                return [first, second, 0]
            if told:
                self._known[one][other] = False
                return None
        self._known[one][other] = True
        return None

    def _told(self, one, other):
        """What is known of a pair without a look at options, or None."""
        told = self._known[one].get(other)
        if told is None:
            told = self._wins.told(one, other)
        return told

"""Sums of games, and games that part two others."""

from sumsplay.errors import BadValue
from sumsplay.sides import SIDES
from sumsplay.whole import is_whole
from sumsplay.worked import work_out

MOST_COPIES = 64
# Two sums with more pairs of followers than this are added part by part.
MANY_PAIRS = 100000


class Sums:
    """The sums of the games of a yard, also of those that are made later."""

    def __init__(self, forms):
        self._forms = forms
        self._yard = forms.yard
        self._simple = forms.order.simple
        # From pairs of games, the one with the lesser number first, to the games that are their sums.
        self._sums = {}

    @property
    def forms(self):
        """The Forms object with the simplest forms of the games."""
        return self._forms

    @property
    def yard(self):
        """The yard whose games are added."""
        return self._yard

    def plus(self, one, other):
        """The number of the sum of two games (point 5.1)."""
        return self.total([one, other])

    def total(self, games):
        """The number of the sum of a list of games (point 5.1)."""
        self._check(games)
        total = 0
        # Copies of a game stand side by side, so that their sums are worked out once.
        for game in sorted(games):
            if self._are_great(total, game):
                total = self._in_parts(total, game)
            else:
                total = self._added(total, game)
        return total

    def minus(self, one, other):
        """The number of the first game less the other one (point 5.2)."""
        self._check([one, other])
        return self.total([one, self._turned_game(other)])

    def copies(self, game, count):
        """The number of the game that is some copies of a game (point 5.2)."""
        if not is_whole(count, -MOST_COPIES, MOST_COPIES):
            raise BadValue("the count is not an integer from -64 to 64")
        self._check([game])
        copied = game if count >= 0 else self._turned_game(game)
        return self.total([copied] * abs(count))

    def plain(self, games):
        """The number of the simplest form of the sum of a list of games."""
        self._check(games)
        forms = []
        for game in games:
            forms.extend([self._simple.form(part) for part in self._simple.parts(game)])
        return self._forms.placed(self._simple.total(forms))

    def company(self, one, other):
        """The number of a game that parts two games (point 5.6), or None if they are alike."""
        order = self._forms.order
        if order.alike(one, other):
            return None
        if order.outcome(one) != order.outcome(other):
            return 0
        # A game and its turned game together are alike to 0, and the other game and this turned game are not.
        first, second = self._forms.simplest(one), self._forms.simplest(other)
        lower = first if self._yard.height(first) <= self._yard.height(second) else second
        return self._yard.turned(lower)

    def _check(self, games):
        """Raises Unknown if one of these is not the number of a game of the yard."""
        for game in games:
            self._yard.check(game)

    def _turned_game(self, game):
        """The number of the turned game. The parts of a sum that is turned are the turned parts."""
        turned = self._yard.turned(game)
        parts = self._simple.parts(game)
        if len(parts) > 1:
            self._simple.know_sum(turned, tuple([self._yard.turned(part) for part in parts]))
        return turned

    def _are_great(self, one, other):
        """Whether two games that were not added yet are sums with too many pairs of followers."""
        if self._pair(one, other) in self._sums:
            return False
        if len(self._simple.parts(one)) == 1 or len(self._simple.parts(other)) == 1:
            return False
        return len(self._yard.followers(one)) * len(self._yard.followers(other)) > MANY_PAIRS

    def _in_parts(self, one, other):
        """The sum of two sums, made of the parts of both, one after the other.

        Many pairs of followers of two sums have the same sum. Each step adds a part that has few followers.
        """
        total = 0
        for part in sorted(self._simple.parts(one) + self._simple.parts(other)):
            total = self._added(total, part)
        self._sums[self._pair(one, other)] = total
        return total

    def _added(self, one, other):
        """The sum of two games, worked out pair by pair of their followers."""
        return work_out(self._sums, self._pair(one, other), self._options, self._make)

    def _pair(self, one, other):
        """The key of the sum of two games. It keeps the sum if one of them is 0."""
        pair = (one, other) if one < other else (other, one)
        if pair[0] == 0:
            self._sums[pair] = pair[1]
        return pair

    def _options(self, pair):
        """The keys of the left and the right options of the sum of two games."""
        one, other = pair
        sides = []
        for side in SIDES:
            keys = [self._pair(option, other) for option in self._yard.options(one, side)]
            keys.extend([self._pair(one, option) for option in self._yard.options(other, side)])
            sides.append(keys)
        return sides[0], sides[1]

    def _make(self, pair, lefts, rights):
        """The game with these options, which is the sum of a pair of games."""
        game = self._yard.game(lefts, rights)
        self._simple.know_sum(game, pair)
        return game

"""Sums of games, and games that part two others."""

from sumsplay.errors import BadValue
from sumsplay.sides import other_side
from sumsplay.simple_sums import SimpleSums
from sumsplay.whole import is_whole
from sumsplay.worked import work_out

MOST_COPIES = 64


class Sums:
    """The sums of the games of a yard, also of those that are made later."""

    def __init__(self, forms):
        self._forms = forms
        self._yard = forms.yard
        self._simple = forms.order.simple
        self._simple_sums = SimpleSums(self._simple)
        # From games to the parts that they are known to be the sum of, an ascending tuple, and back. So the sum
        # of two sums hangs on the parts of both: many pairs of their followers have the same parts together.
        self._parts = {0: ()}
        self._totals = {(): 0}

    @property
    def forms(self):
        """The Forms object with the simplest forms of the games."""
        return self._forms

    @property
    def yard(self):
        """The yard whose games are added."""
        return self._yard

    def plus(self, one, other):
        """The number of the sum of two games (point 5.1)."""
        return self.total([one, other])

    def total(self, games):
        """The number of the sum of a list of games (point 5.1)."""
        key = self._key(self._all_parts(games))
        return work_out(self._totals, key, self._options, self._make)

    def minus(self, one, other):
        """The number of the first game less the other one (point 5.2)."""
        return self.total([one, self._turn(other)])

    def copies(self, game, count):
        """The number of the game that is some copies of a game (point 5.2)."""
        if not is_whole(count, -MOST_COPIES, MOST_COPIES):
            raise BadValue("the count is not an integer from -64 to 64")
        self._yard.check(game)
        copied = game if count >= 0 else self._turn(game)
        return self.total([copied] * abs(count))

    def plain(self, games):
        """The number of the simplest form of the sum of a list of games."""
        forms = [self._simple.form(part) for part in self._all_parts(games)]
        return self._forms.placed(self._simple_sums.total(forms))

    def company(self, one, other):
        """The number of a game that parts two games (point 5.6), or None if they are alike."""
        order = self._forms.order
        if order.alike(one, other):
            return None
        if order.outcome(one) != order.outcome(other):
            return 0
        # A game and its turned game together are alike to 0, and the other game and this turned game are not.
        first, second = self._forms.simplest(one), self._forms.simplest(other)
        lower = first if self._yard.height(first) <= self._yard.height(second) else second
        return self._yard.turned(lower)

    def _all_parts(self, games):
        """The parts of the sum of a list of games."""
        parts = []
        for game in games:
            self._yard.check(game)
            parts.extend(self._parts_of(game))
        return parts

    def _parts_of(self, game):
        """The parts of a game, as far as they are known: a sum has several, any other game is its only part."""
        if game not in self._parts:
            self._parts[game] = self._units(game)
        return self._parts[game]

    def _units(self, game):
        """The parts of the form of an integer, which are as many forms of 1 or -1, or else the game itself."""
        side = "left" if self._yard.lefts(game) else "right"
        unit = below = game
        count = 0
        while below != 0:
            options = self._yard.options(below, side)
            if len(options) != 1 or self._yard.options(below, other_side(side)):
                return (game,)
            unit, below = below, options[0]
            count = count + 1
        return (unit,) * count

    def _turn(self, game):
        """The number of the turned game. The parts of a sum that is turned are the turned parts."""
        turned = self._yard.turned(game)
        self._make_known(turned, self._key([self._yard.turned(part) for part in self._parts_of(game)]))
        return turned

    def _key(self, parts):
        """The key of the sum of some parts."""
        key = tuple(sorted(parts))
        if len(key) == 1:
            self._totals[key] = key[0]
        return key

    def _options(self, parts):
        """The keys of the left and the right options of the sum of some parts."""
        lefts, rights = [], []
        for at, part in enumerate(parts):
            if at == 0 or parts[at - 1] != part:
                rest = parts[:at] + parts[at + 1:]
                lefts.extend([self._moved(rest, option) for option in self._yard.lefts(part)])
                rights.extend([self._moved(rest, option) for option in self._yard.rights(part)])
        return lefts, rights

    def _moved(self, rest, option):
        """The key of the sum of some parts and a game."""
        return self._key(rest + self._parts_of(option))

    def _make(self, parts, lefts, rights):
        """The game with these options, which is the sum of some parts."""
        game = self._yard.game(lefts, rights)
        self._make_known(game, parts)
        return game

    def _make_known(self, game, parts):
        """Keeps that a game is the sum of these parts, unless it is known to be a sum."""
        if len(self._parts_of(game)) == 1:
            self._parts[game] = parts
        self._totals[parts] = game

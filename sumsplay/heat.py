"""Walls, heats and means of games, and games that are cooled."""

from sumsplay.dyadic import Dyadic
from sumsplay.errors import BadValue
from sumsplay.walls import Wall, highest, lowest, meeting


class Heat:
    """The walls, heats and means of the games of a yard, also of those that are made later."""

    def __init__(self, worth):
        self.worth = worth
        self._forms = worth.forms
        self._yard = worth.yard
        # From simplest games to their left wall, right wall, heat and mean.
        self._known = {}
        # For each temperature, told by its top and power, from simplest games to the games cooled by it.
        self._cooled = {}

    def walls(self, game):
        """The left wall and the right wall, each a Wall (point 7.4)."""
        left, right, _, _ = self._all(game)
        return left, right

    def heat(self, game):
        """The heat, a Dyadic, or None if the game is a number (point 7.4)."""
        _, _, heat, _ = self._all(game)
        return heat

    def mean(self, game):
        """The mean, a Dyadic (point 7.4)."""
        _, _, _, mean = self._all(game)
        return mean

    def cooled(self, game, heat):
        """The number of the simplest form of the game cooled by a temperature (point 7.7)."""
        if heat.less(Dyadic(0)):
            raise BadValue("the temperature is below 0")
        simplest = self._forms.simplest(game)
        self._all(simplest)
        done = self._cooled.setdefault((heat.top, heat.power), {})
        waiting = self._yard.reached(simplest, done)
        for follower in waiting:
            if self._is_frozen(follower, heat):
                done[follower] = self.worth.form(self._known[follower][3])
        # What only frozen games lead to need not be cooled.
        waiting = self._yard.reached(simplest, done)
        for follower in waiting:
            done[follower] = self._cool(follower, heat, done)
        return done[simplest]

    def _all(self, game):
        """The left wall, right wall, heat and mean of a game. Alike games have the same ones (point 7.6)."""
        simplest = self._forms.simplest(game)
        waiting = self._yard.reached(simplest, self._known)
        for follower in waiting:
            number = self.worth.number_of(follower)
            if number is None:
                self._known[follower] = self._worked(follower)
            else:
                level = Wall([(Dyadic(0), number)], 0)
                self._known[follower] = (level, level, None, number)
        return self._known[simplest]

    def _worked(self, game):
        """The left wall, right wall, heat and mean of a game that is not a number, its options being told already."""
        upper = highest([self._known[option][1] for option in self._yard.lefts(game)]).tilted(-1)
        lower = lowest([self._known[option][0] for option in self._yard.rights(game)]).tilted(1)
        heat = meeting(upper, lower)
        return upper.cut(heat), lower.cut(heat), heat, upper.at(heat)

    def _is_frozen(self, game, heat):
        """Whether a simplest game that is cooled by this temperature is its mean."""
        own_heat = self._known[game][2]
        return own_heat is None or own_heat.less(heat)

    def _cool(self, game, heat, done):
        """The simplest form of a simplest game that is cooled by a temperature, its options being cooled already."""
        form = self.worth.form(heat)
        lefts = [self._added(done[option], self._yard.turned(form)) for option in self._yard.lefts(game)]
        rights = [self._added(done[option], form) for option in self._yard.rights(game)]
        return self._forms.simplest(self._yard.game(lefts, rights))

    def _added(self, game, form):
        return self.worth.sums.plain([game, form])

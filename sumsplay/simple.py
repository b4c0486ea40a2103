"""The simplest forms by which games are ordered."""

from sumsplay.pairs import Pairs
from sumsplay.ranks import Ranks
from sumsplay.sides import other_side
from sumsplay.yard import Yard


class SimpleForms:
    """The order of the games of a yard, told by their simplest forms.

    Games with many followers mostly have few simplest forms among these, so that few pairs are left
    to be settled. The simplest forms stand in a yard of their own: asking keeps no game in the other one.
    """

    def __init__(self, yard):
        self._yard = yard
        self._own = Yard()
        self._pairs = Pairs(self._own)
        self._pairs.catch_up()
        self._ranks = Ranks(self._pairs)
        # From a game of the yard to its simplest form, and from games of the own yard to theirs.
        self._forms = {0: 0}
        self._own_forms = {0: 0}

    @property
    def own(self):
        """The yard in which the simplest forms stand."""
        return self._own

    def at_least(self, one, other):
        """Whether one game is at least another one."""
        return self._pairs.at_least(self.form(one), self.form(other))

    def form(self, game):
        """The simplest form of a game, in the own yard."""
        waiting = self._yard.reached(game, self._forms)
        for follower in waiting:
            lefts = [self._forms[option] for option in self._yard.lefts(follower)]
            rights = [self._forms[option] for option in self._yard.rights(follower)]
            self._forms[follower] = self.reduced(lefts, rights)
        return self._forms[game]

    def reduced(self, lefts, rights):
        """The simplest form of the game of the own yard with these options, which are simplest themselves."""
        lefts, rights = sorted(set(lefts)), sorted(set(rights))
        # Others keep games in the own yard, too.
        self._pairs.catch_up()
        passed = []
        while True:
            lefts = self.best(lefts, "left")
            rights = self.best(rights, "right")
            game = self._own.game(lefts, rights)
            self._pairs.catch_up()
            passed.append(game)
            if game in self._own_forms:
                form = self._own_forms[game]
                break
            next_lefts = self._led_back(game, lefts, "left")
            next_rights = self._led_back(game, rights, "right")
            if (next_lefts, next_rights) == (lefts, rights):
                form = game
                break
            lefts, rights = next_lefts, next_rights
        for game in passed:
            self._own_forms[game] = form
        return form

    def best(self, options, side):
        """The options of a side but those that another one is at least as good as, ascending.

        The options are unlike simplest forms of the own yard, ascending.
        """
        return self._ranks.best(options, side)

    def as_good(self, one, other, side):
        """Whether one game of the own yard is at least as good for a side as another one (point 4.1)."""
        return self._ranks.as_good(one, other, side)

    def _led_back(self, game, options, side):
        """The options of a side of a game, with steps back taken where they are allowed (point 4.4)."""
        found = []
        for option in options:
            answer = self._answer(game, option, side)
            if answer is None:
                found.append(option)
            else:
                found.extend(self._own.options(answer, side))
        return sorted(set(found))

    def _answer(self, game, option, side):
        """An answer to an option of a side that allows a step back, or None."""
        foe = other_side(side)
        for answer in self._own.options(option, foe):
            if self.as_good(answer, game, foe):
                return answer
        return None

"""The simplest forms by which games are ordered."""

from sumsplay.pairs import Pairs
from sumsplay.ranks import Ranks
from sumsplay.sides import other_side
from sumsplay.simple_sums import SimpleSums
from sumsplay.worked import work_out
from sumsplay.yard import Yard


class SimpleForms:
    """The order of the games of a yard, told by their simplest forms.

    Games with many followers mostly have few simplest forms among these, so that few pairs are left
    to be settled. The simplest forms stand in a yard of their own: asking keeps no game in the other one.
    """

    def __init__(self, yard):
        self._yard = yard
        self._own = Yard()
        self._pairs = Pairs(self._own)
        self._pairs.catch_up()
        self._ranks = Ranks(self._pairs)
        self._sums = SimpleSums(self._own, self.reduced)
        # From games of the yard that are known to be sums to the games that they are the sums of.
        self._known_sums = {}
        # From a game of the yard to its simplest form, and from games of the own yard to theirs.
        self._forms = {0: 0}
        self._own_forms = {0: 0}

    @property
    def own(self):
        """The yard in which the simplest forms stand."""
        return self._own

    def at_least(self, one, other):
        """Whether one game is at least another one."""
        return self._pairs.at_least(self.form(one), self.form(other))

    def form(self, game):
        """The simplest form of a game, in the own yard."""
        return work_out(self._forms, game, self._needed, self._made)

    def total(self, forms):
        """The simplest form of the sum of some simplest forms, all of them in the own yard."""
        form = self._sums.total(forms)
        self._pairs.catch_up()
        return form

    def know_sum(self, game, games):
        """Takes notice that a game of the yard is the sum of several others, a tuple, none of which is 0.

        Its simplest form hangs on theirs alone (point 5.5), so that its followers need not be looked at.
        """
        self._known_sums.setdefault(game, games)

    def parts(self, game):
        """The games that a game of the yard is the sum of, as far as this is known: itself, if it is not."""
        found = []
        waiting = [game]
        while waiting:
            part = waiting.pop()
            if part in self._known_sums:
                waiting.extend(self._known_sums[part])
            else:
                found.append(part)
        return found

    def reduced(self, lefts, rights):
        """The simplest form of the game of the own yard with these options, which are simplest themselves."""
        lefts, rights = sorted(set(lefts)), sorted(set(rights))
        # The options may be new: sums keep games in the own yard, too.
        self._pairs.catch_up()
        passed = []
        while True:
            lefts = self.best(lefts, "left")
            rights = self.best(rights, "right")
            game = self._own.game(lefts, rights)
            self._pairs.catch_up()
            passed.append(game)
            if game in self._own_forms:
                form = self._own_forms[game]
                break
            next_lefts = self._led_back(game, lefts, "left")
            next_rights = self._led_back(game, rights, "right")
            if (next_lefts, next_rights) == (lefts, rights):
                form = game
                break
            lefts, rights = next_lefts, next_rights
        for game in passed:
            self._own_forms[game] = form
        return form

    def best(self, options, side):
        """The options of a side but those that another one is at least as good as, ascending.

        The options are unlike simplest forms of the own yard, ascending.
        """
        return self._ranks.best(options, side)

    def as_good(self, one, other, side):
        """Whether one game of the own yard is at least as good for a side as another one (point 4.1)."""
        return self._ranks.as_good(one, other, side)

    def _needed(self, game):
        """The games on whose simplest forms that of a game hangs: its parts, or its left and its right options."""
        if game in self._known_sums:
            return self.parts(game), []
        return self._yard.lefts(game), self._yard.rights(game)

    def _made(self, game, forms, more_forms):
        """The simplest form of a game, from those of the games that it hangs on."""
        if game in self._known_sums:
            return self.total(forms)
        return self.reduced(forms, more_forms)

    def _led_back(self, game, options, side):
        """The options of a side of a game, with steps back taken where they are allowed (point 4.4)."""
        found = []
        for option in options:
            answer = self._answer(game, option, side)
            if answer is None:
                found.append(option)
            else:
                found.extend(self._own.options(answer, side))
        return sorted(set(found))

    def _answer(self, game, option, side):
        """An answer to an option of a side that allows a step back, or None."""
        foe = other_side(side)
        for answer in self._own.options(option, foe):
            if self.as_good(answer, game, foe):
                return answer
        return None

"""The simplest forms by which games are ordered."""

from sumsplay.pairs import Pairs
from sumsplay.yard import Yard


class SimpleForms:
    """The order of the games of a yard, told by their simplest forms.

    Games with many followers mostly have few simplest forms among these, so that few pairs are left
    to be settled. The simplest forms stand in a yard of their own: asking keeps no game in the other one.
    """

    def __init__(self, yard):
        self._yard = yard
        self._own = Yard()
        self._pairs = Pairs(self._own)
        self._pairs.catch_up()
        # From a game of the yard to its simplest form, and from games of the own yard to theirs.
        self._forms = {0: 0}
        self._own_forms = {0: 0}

    def at_least(self, one, other):
        """Whether one game is at least another one."""
        return self._pairs.at_least(self._form(one), self._form(other))

    def _form(self, game):
        """The simplest form of a game, in the own yard."""
        waiting = self._yard.reached(game, self._forms)
        for follower in waiting:
            lefts = [self._forms[option] for option in self._yard.lefts(follower)]
            rights = [self._forms[option] for option in self._yard.rights(follower)]
            self._forms[follower] = self._reduced(sorted(set(lefts)), sorted(set(rights)))
        return self._forms[game]

    def _reduced(self, lefts, rights):
        """The simplest form of the game of the own yard with these options, which are simplest themselves."""
        passed = []
        while True:
            lefts = self._best(lefts, "left")
            rights = self._best(rights, "right")
            game = self._own.game(lefts, rights)
            self._pairs.catch_up()
            passed.append(game)
            if game in self._own_forms:
                form = self._own_forms[game]
                break
            next_lefts = self._led_back(game, lefts, "left")
            next_rights = self._led_back(game, rights, "right")
            if (next_lefts, next_rights) == (lefts, rights):
                form = game
                break
            lefts, rights = next_lefts, next_rights
        for game in passed:
            self._own_forms[game] = form
        return form

    def _best(self, options, side):
        """The options of a side but those that another one is at least as good as, ascending."""
        best = []
        for option in options:
            if not self._is_matched(option, best, side):
                best = [other for other in best if not self._as_good(option, other, side)]
                best.append(option)
        return sorted(best)

    def _is_matched(self, option, others, side):
        for other in others:
            if self._as_good(other, option, side):
                return True
        return False

    def _led_back(self, game, options, side):
        """The options of a side of a game, with steps back taken where they are allowed (point 4.4)."""
        found = []
        for option in options:
            answer = self._answer(game, option, side)
            if answer is None:
                found.append(option)
            else:
                found.extend(self._own.options(answer, side))
        return sorted(set(found))

    def _answer(self, game, option, side):
        """An answer to an option of a side that allows a step back, or None."""
        other_side = "right" if side == "left" else "left"
        for answer in self._own.options(option, other_side):
            if self._as_good(answer, game, other_side):
                return answer
        return None

    def _as_good(self, one, other, side):
        """Whether one game is at least as good for a side as another one (point 4.1)."""
        if side == "left":
            return self._pairs.at_least(one, other)
        return self._pairs.at_least(other, one)

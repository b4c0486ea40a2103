"""Steps that make games simpler, and the simplest forms to which they lead."""

from sumsplay.errors import NoMove
from sumsplay.sides import SIDES, other_side


class Forms:
    """The steps and simplest forms of the games of a yard, also of those that are made later."""

    def __init__(self, order):
        self.order = order
        self._yard = order.yard
        self._simple = order.simple
        # From simplest forms, as the order keeps them in a yard of its own, to the same games of this yard.
        self._placed = {0: 0}

    @property
    def yard(self):
        """The yard of the order."""
        return self._yard

    def steps(self, game):
        """The steps that the game allows (points 4.2 and 4.3)."""
        self._yard.check(game)
        found = []
        for side in SIDES:
            found.extend([("drop", side, option) for option in self._dropped(game, side)])
        for side in SIDES:
            for option in self._yard.options(game, side):
                found.extend([("back", side, option, answer) for answer in self._answers(game, side, option)])
        return found

    def taken(self, game, step):
        """The number of the game that the step leads to (point 4.4)."""
        self._yard.check(game)
        if not self._allows(game, step):
            raise NoMove("the game does not allow this step")
        side, option = step[1], step[2]
        options = [other for other in self._yard.options(game, side) if other != option]
        if step[0] == "back":
            options.extend(self._yard.options(step[3], side))
        if side == "left":
            return self._yard.game(options, self._yard.rights(game))
        return self._yard.game(self._yard.lefts(game), options)

    def simplest(self, game):
        """The number of the simplest form of the game (point 4.6)."""
        return self.placed(self._simple.form(game))

    def is_simplest(self, game):
        """Whether neither the game nor any other of its followers allows a step (point 4.6)."""
        return self.simplest(game) == game

    def placed(self, form):
        """The number, in this yard, of a simplest form that the order keeps."""
        own = self._simple.own
        waiting = own.reached(form, self._placed)
        for follower in waiting:
            lefts = [self._placed[option] for option in own.lefts(follower)]
            rights = [self._placed[option] for option in own.rights(follower)]
            self._placed[follower] = self._yard.game(lefts, rights)
        return self._placed[form]

    def _allows(self, game, step):
        """Whether a tuple is one of the steps that the game allows."""
        if len(step) == 3 and step[0] == "drop" and step[1] in SIDES:
            return step[2] in self._dropped(game, step[1])
        if len(step) == 4 and step[0] == "back" and step[1] in SIDES:
            if step[2] in self._yard.options(game, step[1]):
                return step[3] in self._answers(game, step[1], step[2])
        return False

    def _dropped(self, game, side):
        """The options of a side that may be dropped, ascending."""
        options = self._yard.options(game, side)
        forms = [self._simple.form(option) for option in options]
        counts = {}
        for form in forms:
            counts[form] = counts.get(form, 0) + 1
        best = {form: True for form in self._simple.best(sorted(counts), side)}
        return [option for option, form in zip(options, forms) if form not in best or counts[form] > 1]

    def _answers(self, game, side, option):
        """The answers to an option of a side that allow a step back, ascending."""
        foe = other_side(side)
        form = self._simple.form(game)
        return [answer for answer in self._yard.options(option, foe)
                if self._simple.as_good(self._simple.form(answer), form, foe)]

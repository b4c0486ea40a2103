"""Texts of games."""

from sumsplay.errors import BadText
from sumsplay.grammar import parsed
from sumsplay.worked import work_out


def write_game(values, game):
    """The text of a game of the yard of a Values object (point 9.1)."""
    writer = Writer(values)
    return work_out({}, values.forms.simplest(game), writer.options, writer.written)


def read_game(values, text):
    """The number of the game that a text tells (points 9.2 and 9.3); raises BadText if it tells none."""
    if type(text) is not str:
        raise BadText("this is no string")
    # The whole text is read before any game is made, as games may be great.
    return _game(values, parsed(text))


class Writer:
    """Writes simplest games, option by option."""

    def __init__(self, values):
        self._values = values

    def options(self, game):
        """The games whose texts stand in the text of a simplest game, left and right."""
        if self._short(game) is not None:
            return [], []
        return self._values.yard.lefts(game), self._values.yard.rights(game)

    def written(self, game, lefts, rights):
        """The text of a simplest game, from those of its options."""
        short = self._short(game)
        if short is not None:
            return short
        return "{" + ",".join(sorted(lefts)) + "|" + ",".join(sorted(rights)) + "}"

    def _short(self, game):
        """The text of a number or a heap, or None."""
        number = self._values.number_of(game)
        if number is not None:
            return number.text()
        size = self._values.heap_of(game)
        return None if size is None else f"*{size}"


def _game(values, told):
    """The number of the game that is told as the grammar does."""
    if told[0] == "number":
        return values.number(told[1])
    if told[0] == "heap":
        return values.heap(told[1])
    if told[0] == "up":
        return values.up(1)
    if told[0] == "sum":
        return values.sums.total([_term(values, turned, atom) for turned, atom in told[1]])
    lefts = [_game(values, option) for option in told[1]]
    rights = [_game(values, option) for option in told[2]]
    return values.yard.game(lefts, rights)


def _term(values, turned, atom):
    """The number of the game of a term, which is one copy of its atom or of the atom turned."""
    return values.sums.copies(_game(values, atom), -1 if turned else 1)

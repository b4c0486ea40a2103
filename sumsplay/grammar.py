"""Reads texts of games (points 9.2 and 9.3), without making the games.

What is read is told by tuples, which begin with a word: ("number", dyadic), ("heap", size), ("up",),
("game", lefts, rights) with lists of sums, and ("sum", terms). A term is a pair of whether it is turned
and of what it tells.
"""

from sumsplay.dyadic import Dyadic
from sumsplay.errors import BadText
from sumsplay.values import MOST_FORM_POWER, MOST_NUMBER, MOST_SIZE

LONGEST = 400
MOST_OPTIONS = 8
MOST_BRACKETS = 12
DIGITS = "0123456789"


def parsed(text):
    """What a string tells; raises BadText if it is not the text of a game."""
    if len(text) > LONGEST:
        raise BadText("this has more than 400 characters")
    reader = Reader(text)
    told = reader.sum_read()
    if not reader.is_done():
        raise BadText("there is something behind the sum")
    return told


class Reader:
    """Reads a text from its beginning to its end."""

    def __init__(self, text):
        self._text = text
        self._at = 0
        self._brackets = 0

    def is_done(self):
        """Whether the whole text is read."""
        return self._at == len(self._text)

    def sum_read(self):
        """Reads a sum."""
        terms = [self._term(False)]
        while self._sign() in ("+", "-"):
            terms.append(self._term(self._taken() == "-"))
        return "sum", terms

    def _term(self, turned):
        """Reads a term, which may be turned already."""
        while self._sign() == "-":
            self._taken()
            turned = not turned
        return turned, self._atom()

    def _atom(self):
        """Reads an atom."""
        sign = self._sign()
        if sign in ("(", "{"):
            return self._bracket()
        if sign not in ("^", "*"):
            return "number", self._number()
        self._taken()
        return ("up",) if sign == "^" else ("heap", self._size())

    def _bracket(self):
        """Reads an atom with brackets."""
        if self._brackets == MOST_BRACKETS:
            raise BadText("there are more than 12 brackets within one another")
        self._brackets += 1
        if self._taken() == "(":
            told = self.sum_read()
            self._pass(")")
        else:
            lefts = self._options("|")
            told = "game", lefts, self._options("}")
        self._brackets -= 1
        return told

    def _options(self, end):
        """Reads options and the sign behind them."""
        found = []
        if self._sign() != end:
            found.append(self.sum_read())
        while self._sign() == ",":
            self._taken()
            found.append(self.sum_read())
        self._pass(end)
        if len(found) > MOST_OPTIONS:
            raise BadText("there are more than 8 options")
        return found

    def _number(self):
        """Reads the text of a number within the bounds."""
        number = Dyadic.from_text(self._run(DIGITS + "/"))
        if Dyadic(MOST_NUMBER).less(number) or number.power > MOST_FORM_POWER:
            raise BadText("the number is above 64, or its power is above 12")
        return number

    def _size(self):
        """Reads the size of a heap."""
        text = self._run(DIGITS)
        # Long rows of digits are no sizes, and so are leading zeros.
        for size in range(MOST_SIZE + 1):
            if str(size) == text:
                return size
        raise BadText("this is not the size of a heap")

    def _run(self, signs):
        """Reads as many of some signs as there are."""
        start = self._at
        while self._at < len(self._text) and self._text[self._at] in signs:
            self._at += 1
        return self._text[start:self._at]

    def _pass(self, sign):
        """Reads a sign that has to stand here."""
        if self._sign() != sign:
            raise BadText("another sign should stand here")
        self._at += 1

    def _sign(self):
        """The next sign, or None at the end."""
        return None if self.is_done() else self._text[self._at]

    def _taken(self):
        """Reads the next sign."""
        sign = self._sign()
        self._at += 1
        return sign

"""Dyadic numbers: exact numbers top / 2 ** power, and the simplest one between two bounds."""

from sumsplay.errors import BadText, BadValue
from sumsplay.whole import is_whole

MOST_TOP = 1000000000000
MOST_POWER = 40
# As long as the text of the least top. Longer ones are out of bounds, and Python refuses to read very long ones.
LONGEST_TOP = 14


class Dyadic:
    """The number top / 2 ** power, kept in its plain form (point 1.1). It does not change."""

    def __init__(self, top, power=0):
        # The messages do not show what was passed, as Python does not write out very great integers.
        if not is_whole(top, -MOST_TOP, MOST_TOP):
            raise BadValue("the top is not an integer from -10 ** 12 to 10 ** 12")
        if not is_whole(power, 0, MOST_POWER):
            raise BadValue("the power is not an integer from 0 to 40")
        self._top, self._power = _plain(top, power)

    @property
    def top(self):
        """The top of the plain form."""
        return self._top

    @property
    def power(self):
        """The power of the plain form."""
        return self._power

    def __add__(self, other):
        top = (self._top << other.power) + (other.top << self._power)
        return exact(top, self._power + other.power)

    def __sub__(self, other):
        top = (self._top << other.power) - (other.top << self._power)
        return exact(top, self._power + other.power)

    def __neg__(self):
        return exact(-self._top, self._power)

    def less(self, other):
        """Whether the number is less than the other one."""
        return self._top << other.power < other.top << self._power

    def same(self, other):
        """Whether both are the same number."""
        return self._top == other.top and self._power == other.power

    def half(self):
        """Half of the number."""
        return exact(self._top, self._power + 1)

    def text(self):
        """The text of the number (point 1.3)."""
        if self._power == 0:
            return str(self._top)
        return f"{self._top}/{1 << self._power}"

    def age(self):
        """The age of the number (point 1.4)."""
        size = abs(self._top)
        if self._power == 0:
            return size
        return (size >> self._power) + self._power + 1

    @staticmethod
    def from_text(text):
        """The dyadic that has this text; raises BadText if there is none."""
        if type(text) is not str:
            raise BadText("this is no string")
        top_text, slash, bottom_text = text.partition("/")
        top = _read_top(top_text)
        power = _read_power(bottom_text) if slash else 0
        if top is None or power is None:
            raise BadText("this is not the text of a dyadic")
        number = Dyadic(top, power)
        # Leading zeros, a 0 with a sign and a form that is not plain are found here.
        if number.text() != text:
            raise BadText("this is not the text of a dyadic")
        return number


def simplest_between(low, high):
    """The simplest number strictly between two bounds, each a Dyadic or None (point 1.5)."""
    if low is not None and high is not None and not low.less(high):
        raise BadValue("the low bound is not less than the high one")
    zero = Dyadic(0)
    if high is not None and not zero.less(high):
        return -_simplest_above(-high, None if low is None else -low)
    if low is None or low.less(zero):
        return zero
    return _simplest_above(low, high)


def _simplest_above(low, high):
    """The simplest number between two bounds of which the low one is not below 0."""
    power = 0
    # The first number above the low bound with the least power is the only one, or the least integer.
    while True:
        number = exact((low.top << power >> low.power) + 1, power)
        if high is None or number.less(high):
            return number
        power = power + 1


def _plain(top, power):
    """The top and the power of the plain form."""
    while power > 0 and top & 1 == 0:
        top = top >> 1
        power = power - 1
    return top, power


def exact(top, power):
    """The dyadic of a result: only its plain form, not what it is made of, has to be within the bounds."""
    number = Dyadic(0)
    plain_top, plain_power = _plain(top, power)
    number._top = plain_top
    number._power = plain_power
    return number


def _read_top(text):
    """The integer that decimal digits tell, with or without a sign, or None."""
    digits = text.removeprefix("-")
    if len(text) > LONGEST_TOP or not _are_digits(digits):
        return None
    top = int(text)
    return top if is_whole(top, -MOST_TOP, MOST_TOP) else None


def _are_digits(text):
    """Whether a text is one or more decimal digits."""
    return text != "" and all([sign in "0123456789" for sign in text])


def _read_power(text):
    """The power of 2, at least 1, that has this text, or None."""
    for power in range(1, MOST_POWER + 1):
        if str(1 << power) == text:
            return power
    return None

"""Exact numbers, lines over them, and stretches between them. None of them ever changes."""

from math import gcd

from whatspeed.errors import BadNumber, BadStretch


def is_whole(value):
    """Whether any value is an integer; True and False are none."""
    return isinstance(value, int) and not isinstance(value, bool)


class Number:
    """The fraction top / bottom, in lowest terms, with a bottom of at least 1."""

    def __init__(self, top, bottom=1):
        if not is_whole(top) or not is_whole(bottom) or bottom == 0:
            raise BadNumber((top, bottom))
        shared = gcd(top, bottom)
        if bottom < 0:
            shared = -shared
        self._top = top // shared
        self._bottom = bottom // shared

    @property
    def top(self):
        """What stands above the stroke."""
        return self._top

    @property
    def bottom(self):
        """What stands below the stroke."""
        return self._bottom

    def __eq__(self, other):
        return isinstance(other, Number) and self._top == other._top and self._bottom == other._bottom

    def __bool__(self):
        return bool(self._top)

    def __add__(self, other):
        return Number(self._top * other._bottom + other._top * self._bottom, self._bottom * other._bottom)

    def __sub__(self, other):
        return Number(self._top * other._bottom - other._top * self._bottom, self._bottom * other._bottom)

    def __mul__(self, other):
        return Number(self._top * other._top, self._bottom * other._bottom)

    def __neg__(self):
        return Number(-self._top, self._bottom)

    def __abs__(self):
        return Number(abs(self._top), self._bottom)

    def is_less(self, other):
        """Whether this Number is less than the other one."""
        return self._top * other._bottom < other._top * self._bottom

    def divided_by(self, other):
        """This Number divided by the other one, which must not be 0."""
        if not other:
            raise BadNumber((self._top, 0))
        return Number(self._top * other._bottom, self._bottom * other._top)


class Line:
    """The function base + slope * s."""

    def __init__(self, base, slope):
        self._base = base
        self._slope = slope

    @property
    def base(self):
        """The value at 0."""
        return self._base

    @property
    def slope(self):
        """By how much the value grows from 0 to 1."""
        return self._slope

    def __call__(self, s):
        return self._base + self._slope * s

    def __eq__(self, other):
        return isinstance(other, Line) and self._base == other._base and self._slope == other._slope

    def __add__(self, other):
        return Line(self._base + other._base, self._slope + other._slope)

    def __sub__(self, other):
        return Line(self._base - other._base, self._slope - other._slope)

    def meets(self, other):
        """The only Number at which both have the same value; None if there is no such one."""
        gap = self._slope - other._slope
        if not gap:
            return None
        return (other._base - self._base).divided_by(gap)


class Stretch:
    """All Numbers from low to high, each of these two included or not."""

    def __init__(self, low, high, *, has_low=True, has_high=True):
        if not isinstance(low, Number) or not isinstance(high, Number):
            raise BadStretch((low, high))
        if not isinstance(has_low, bool) or not isinstance(has_high, bool):
            raise BadStretch((low, high))
        if high.is_less(low) or (low == high and not (has_low and has_high)):
            raise BadStretch((low, high))
        self._low = low
        self._high = high
        self._has_low = has_low
        self._has_high = has_high
        self._middle = (low + high) * Number(1, 2)

    @property
    def low(self):
        """The lower end, included or not."""
        return self._low

    @property
    def high(self):
        """The upper end, included or not."""
        return self._high

    @property
    def has_low(self):
        """Whether the lower end is included."""
        return self._has_low

    @property
    def has_high(self):
        """Whether the upper end is included."""
        return self._has_high

    @property
    def middle(self):
        """Half of low + high."""
        return self._middle

    def __eq__(self, other):
        return (
            isinstance(other, Stretch)
            and self._low == other._low
            and self._high == other._high
            and self._has_low == other._has_low
            and self._has_high == other._has_high
        )

    def __contains__(self, s):
        if s == self._low:
            return self._has_low
        if s == self._high:
            return self._has_high
        return self._low.is_less(s) and s.is_less(self._high)

"""Whether a value that anybody wrote is a plain value, sign by sign: True is not 1, and a list is no tuple."""

from whatspeed.exact import Number, is_whole


def is_same(plain, value):
    """Whether any value is this one, which is built from integers, booleans, strings, Numbers and tuples."""
    if isinstance(plain, tuple):
        if not isinstance(value, tuple) or len(value) != len(plain):
            return False
        return all([is_same(one, other) for one, other in zip(plain, value)])
    if is_whole(plain):
        return is_whole(value) and value == plain
    if isinstance(plain, bool):
        return isinstance(value, bool) and value == plain
    if isinstance(plain, Number):
        return value == plain
    return isinstance(value, str) and value == plain


def pair_of(number):
    """A Number as a plain value."""
    return (number.top, number.bottom)

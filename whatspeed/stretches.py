"""Stretches taken together: joined, cut where a Line turns, and laid over one another."""

from whatspeed.exact import Stretch


def joined(stretches):
    """Ascending Stretches that do not overlap, those joined that leave nothing between them."""
    found = []
    for stretch in stretches:
        if found and _touch(found[-1], stretch):
            low, has_low = found[-1].low, found[-1].has_low
            found[-1] = Stretch(low, stretch.high, has_low=has_low, has_high=stretch.has_high)
        else:
            found.append(stretch)
    return tuple(found)


def parts_with(stretch, line, signs):
    """The Stretches within a Stretch on which the sign of a Line is one of these: -1, 0, 1."""
    return joined([part for part in _cut(stretch, _root(line)) if _sign(line(part.middle)) in signs])


def overlaps(one, other):
    """(Stretch, cell, other cell) for all that two rows of ascending cells share; both rows reach from 0 to 1."""
    found = []
    at = by = 0
    while at < len(one) and by < len(other):
        stretch = _common(one[at].stretch, other[by].stretch)
        if stretch is not None:
            found.append((stretch, one[at], other[by]))
        if _ends_first(one[at].stretch, other[by].stretch):
            at += 1
        else:
            by += 1
    return found


def _touch(one, other):
    return one.high == other.low and (one.has_high or other.has_low)


def _sign(number):
    if number.top == 0:
        return 0
    return 1 if number.top > 0 else -1


def _root(line):
    """Where a Line is 0; None if that is nowhere or everywhere."""
    return None if not line.slope else (-line.base).divided_by(line.slope)


def _cut(stretch, s):
    """The parts of a Stretch ahead of s, at s and behind it; all of it, if s is None or not within."""
    if s is None or s.is_less(stretch.low) or stretch.high.is_less(s):
        return [stretch]
    parts = []
    if stretch.low.is_less(s):
        parts.append(Stretch(stretch.low, s, has_low=stretch.has_low, has_high=False))
    if s in stretch:
        parts.append(Stretch(s, s))
    if s.is_less(stretch.high):
        parts.append(Stretch(s, stretch.high, has_low=False, has_high=stretch.has_high))
    return parts


def _common(one, other):
    """What two Stretches share that overlap or touch; None if it is nothing."""
    low = other.low if one.low.is_less(other.low) else one.low
    high = one.high if one.high.is_less(other.high) else other.high
    has_low = low in one and low in other
    if low == high and not has_low:
        return None
    return Stretch(low, high, has_low=has_low, has_high=high in one and high in other)


def _ends_first(one, other):
    return one.high.is_less(other.high) or (one.high == other.high and not one.has_high)

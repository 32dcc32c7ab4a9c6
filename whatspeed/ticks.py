"""Times within a run.

A time is a pair of integers (base, slope): base + slope * s, in units that a Scale knows. Runs compare and add times
all along, for which Lines would be slow.
"""

from math import lcm

from whatspeed.exact import Line, Number


def plus(one, other):
    """The sum of two times."""
    return (one[0] + other[0], one[1] + other[1])


def minus(one, other):
    """The difference of two times."""
    return (one[0] - other[0], one[1] - other[1])


class Scale:
    """How long things take, in units that keep all of it whole; factors has a Line for each part."""

    def __init__(self, factors):
        unit = 1
        for factor in factors.values():
            unit = lcm(unit, factor.base.bottom, factor.slope.bottom)
        self._unit = unit
        self._costs = {part: _in_units(factor, unit) for part, factor in factors.items()}

    def time_of_ticks(self, ticks):
        """So many ticks, for which no factor counts."""
        return (ticks * self._unit, 0)

    def cost(self, ticks, part):
        """What so many ticks of work cost; part is "" for work that belongs to none."""
        if part == "":
            return self.time_of_ticks(ticks)
        base, slope = self._costs[part]
        return (ticks * base, ticks * slope)

    def line_of(self, time):
        """A time as a Line."""
        base, slope = time
        return Line(Number(base, self._unit), Number(slope, self._unit))


def _in_units(line, unit):
    base, slope = line.base, line.slope
    return (base.top * (unit // base.bottom), slope.top * (unit // slope.bottom))


class Clock:
    """Compares times as they are just beside a Number s: just above it if side is 1, just below it if side is -1.

    What it finds holds up to the nearest s on this side at which one of its comparisons turns, which it remembers.
    """

    def __init__(self, s, side):
        self._top = s.top
        self._bottom = s.bottom
        self._side = side
        self._nearest = None

    def sign(self, time):
        """-1, 0 or 1 for a time that is less than 0, always 0, or greater than 0."""
        at_s, growth = self._place(time)
        # Only what goes towards 0 on this side turns beyond s.
        if at_s * growth < 0:
            self._remember_turn(time)
        if at_s == 0:
            at_s = growth
        if at_s == 0:
            return 0
        return 1 if at_s > 0 else -1

    def earliest(self, times):
        """The indexes of the times that are earliest."""
        first = min(times, key=self._place)
        # Only these comparisons matter; those among the later times must not be remembered.
        return [at for at, time in enumerate(times) if self.sign(minus(time, first)) == 0]

    def turn(self):
        """The nearest s on this side at which a comparison turns; None if there is none."""
        if self._nearest is None:
            return None
        top, bottom = self._nearest
        return Number(top, bottom)

    def _place(self, time):
        """What sorts times as they are beside s."""
        base, slope = time
        return (base * self._bottom + slope * self._top, slope * self._side)

    def _remember_turn(self, time):
        base, slope = time
        top, bottom = (-base, slope) if slope > 0 else (base, -slope)
        if self._nearest is not None:
            nearest_top, nearest_bottom = self._nearest
            if (top * nearest_bottom - nearest_top * bottom) * self._side >= 0:
                return
        self._nearest = (top, bottom)

"""What curves tell: where something holds, what is least and greatest, and what a small change does."""

from whatspeed.exact import Line, Number
from whatspeed.fields import trace_at, trace_beside
from whatspeed.questions import GREATEST_FACTOR, check_speeds, factors_of_speeds
from whatspeed.stretches import joined, overlaps, parts_with


def reaches(curve, limit):
    """The Stretches of all s at which the outcome is done and the time at most the limit."""
    bound = Line(limit, Number(0))
    found = []
    for cell in _done(curve):
        found.extend(parts_with(cell.stretch, cell.time - bound, (-1, 0)))
    return joined(found)


def where(curve, test):
    """The Stretches of all s for whose Cells the test, called once with each, returns a true value."""
    return joined([cell.stretch for cell in curve.cells if test(cell)])


def least(curve):
    """(greatest Number below which nothing is done, first Stretch on which it is the time or None); or None."""
    return _extreme(curve, -1)


def greatest(curve):
    """(least Number above which nothing is done, first Stretch on which it is the time or None); or None."""
    return _extreme(curve, 1)


def falls(curve):
    """(s, t) with s < t and a smaller time at t; None if there is no such pair."""
    for cell in curve.cells:
        if cell.time.slope.top < 0:
            return _two_within(cell.stretch)
    # Where no cell falls, the time does so only between two neighbours.
    for cell, follower in zip(curve.cells, curve.cells[1:]):
        if _start(follower).is_less(_end(cell)):
            return _fallen_pair(cell, follower)
    return None


def unlike(one, other):
    """The Stretches of all s at which two curves have another outcome, or other outputs."""
    pairs = overlaps(one.cells, other.cells)
    return joined([stretch for stretch, cell, second in pairs if _results(cell) != _results(second)])


def slower(one, other):
    """The Stretches of all s at which both are done and the time of the second one is greater."""
    found = []
    for stretch, cell, second in overlaps(one.cells, other.cells):
        if cell.outcome == "done" and second.outcome == "done":
            found.extend(parts_with(stretch, second.time - cell.time, (1,)))
    return joined(found)


def pulls(program, speeds):
    """(part, below, above) for each part: (slope, gap) of the time beside its factor; raises BadSpeeds."""
    check_speeds(program, speeds)
    time = trace_at(program, speeds).whens()[-1].base
    factors = factors_of_speeds(program, speeds)
    found = []
    for part in program.parts:
        factor = factors[part].base
        below = None if factor == Number(0) else _pull(program, factors, part, -1, time)
        above = None if factor == Number(GREATEST_FACTOR) else _pull(program, factors, part, 1, time)
        found.append((part, below, above))
    return tuple(found)


def _pull(program, factors, part, side, time):
    """(slope, gap) just below or above the factor of a part."""
    factor = factors[part].base
    changed = {name: factors[name] for name in factors}
    changed[part] = Line(Number(0), Number(1))
    trace, _ = trace_beside(program, changed, factor, side)
    line = trace.whens()[-1]
    return (line.slope, line(factor) - time)


def _done(curve):
    return [cell for cell in curve.cells if cell.outcome == "done"]


def _results(cell):
    """What must be alike: the outcome, and the outputs without their times."""
    return (cell.outcome, [(task, value) for _, task, value in cell.outputs])


def _extreme(curve, side):
    """The bound of all times that are done, the lower one if side is -1, with the first Stretch that meets it."""
    cells = _done(curve)
    if not cells:
        return None
    bound = _start(cells[0])
    for cell in cells:
        for time in (_start(cell), _end(cell)):
            if _is_further(time, bound, side):
                bound = time
    met = []
    for cell in cells:
        met.extend(parts_with(cell.stretch, cell.time - Line(bound, Number(0)), (0,)))
    stretches = joined(met)
    return (bound, stretches[0] if stretches else None)


def _is_further(time, bound, side):
    return bound.is_less(time) if side == 1 else time.is_less(bound)


def _start(cell):
    """The Line of a cell at its lower end, which may not be included."""
    line = cell.time
    return line(cell.stretch.low)


def _end(cell):
    line = cell.time
    return line(cell.stretch.high)


def _half(one, other):
    return (one + other) * Number(1, 2)


def _two_within(stretch):
    """Two Numbers within a Stretch, both ends left out."""
    return (_half(stretch.low, stretch.middle), _half(stretch.middle, stretch.high))


def _fallen_pair(cell, follower):
    """(s, t) with a smaller time at t; the second cell begins below the end of the first, and none of them falls."""
    level = Line(_half(_start(follower), _end(cell)), Number(0))
    return (_near_end(cell, level), _near_start(follower, level))


def _near_end(cell, level):
    """An s of a cell that does not fall at which it is above a level, which its end is."""
    low, high = cell.stretch.low, cell.stretch.high
    meeting = cell.time.meets(level)
    return _half(low if meeting is None or meeting.is_less(low) else meeting, high)


def _near_start(cell, level):
    """An s of a cell that does not fall at which it is below a level, which its start is."""
    low, high = cell.stretch.low, cell.stretch.high
    meeting = cell.time.meets(level)
    return _half(low, high if meeting is None or high.is_less(meeting) else meeting)

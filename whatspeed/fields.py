"""All runs of a program for a question: on which stretches of s they have the same story."""

from whatspeed.exact import Number, Stretch
from whatspeed.machine import trace_run
from whatspeed.questions import factors_of_question, factors_of_speeds, speeds_at
from whatspeed.ticks import Clock, Scale


def trace_at(program, speeds):
    """The Trace of the run with these speeds."""
    return trace_run(program.plan, Scale(factors_of_speeds(program, speeds)), Clock(Number(0), 1))


def trace_beside(program, factors, s, side):
    """The Trace of all runs just above s (side is 1) or below it (-1), and the s up to which it is so, or None."""
    clock = Clock(s, side)
    trace = trace_run(program.plan, Scale(factors), clock)
    return trace, clock.turn()


def pieces(program, question, s, side):
    """(Stretch, Trace) from s on up to 1, or down to 0, if side is -1: single s and stretches between, in turn."""
    factors = factors_of_question(program, question)
    limit = Number(1) if side == 1 else Number(0)
    yield (Stretch(s, s), trace_at(program, speeds_at(question, s)))
    while s != limit:
        trace, turn = trace_beside(program, factors, s, side)
        end = limit if turn is None or _is_beyond(turn, limit, side) else turn
        yield (_between(s, end), trace)
        s = end
        yield (Stretch(s, s), trace_at(program, speeds_at(question, s)))


def joined_pieces(lower, upper):
    """Two neighbouring pieces with the same story as one."""
    one, trace = lower
    other, other_trace = upper
    stretch = Stretch(one.low, other.high, has_low=one.has_low, has_high=other.has_high)
    # The Trace at a single s does not tell how the times grow.
    if one.low == one.high:
        return stretch, other_trace
    return stretch, trace


def piece_around(program, question, s):
    """The longest piece with one story that has s."""
    found = None
    for side in (1, -1):
        for piece in pieces(program, question, s, side):
            if found is None:
                found = piece
            elif piece[1].story != found[1].story:
                break
            else:
                found = joined_pieces(found, piece) if side == 1 else joined_pieces(piece, found)
    return found


def _is_beyond(turn, limit, side):
    return limit.is_less(turn) if side == 1 else turn.is_less(limit)


def _between(s, end):
    low, high = (s, end) if s.is_less(end) else (end, s)
    return Stretch(low, high, has_low=False, has_high=False)

"""Cells: the longest stretches of s on which all runs have one story."""

from whatspeed.errors import NoSpeed
from whatspeed.exact import Number
from whatspeed.fields import piece_around
from whatspeed.questions import speeds_at
from whatspeed.runs import run
from whatspeed.values import pair_of


def cell_around(program, question, s):
    """The Cell that has s, however many there are."""
    return Cell(program, question, piece_around(program, question, s))


class Cell:
    """All runs on a stretch; their times are Lines. It never changes."""

    def __init__(self, program, question, piece):
        self._program = program
        self._question = question
        self._stretch, self._trace = piece
        self._outcome, told = self._trace.story
        self._moments = tuple(zip(self._trace.whens(), told))
        self._time = self._moments[-1][0]
        self._events = self._trace.events_told()
        self._outputs = self._trace.outputs_told()

    @property
    def stretch(self):
        """The Stretch of all its s."""
        return self._stretch

    @property
    def time(self):
        """The Line of the last moment."""
        return self._time

    @property
    def outcome(self):
        """How its runs end: done, stuck, fault or long."""
        return self._outcome

    @property
    def events(self):
        """All events, in the sequence in which they happen."""
        return self._events

    @property
    def moments(self):
        """(Line, its events) for all moments, in their sequence."""
        return self._moments

    @property
    def outputs(self):
        """(Line, task, value) for all outputs, in their sequence."""
        return self._outputs

    def time_of(self, index):
        """The Line of the time of an event; raises NoEvent."""
        return self._trace.when_told(index)

    def account(self, task):
        """(word, name, Line of the length) for all that takes the task some time, ascending; raises NoTask."""
        return self._trace.account_of(task)

    def chain(self):
        """The links (word, task, line, Line of the length) that explain the time, from the last one back to 0."""
        return self._trace.links()

    def shares(self):
        """(part, slope) for each part of the question, then for "": how much of the time's slope is theirs."""
        slopes = {part: Number(0) for part, _, _ in self._question}
        slopes[""] = Number(0)
        for word, _, line, length in self._trace.links():
            part = self._program.plan.part_of(line) if word == "work" else ""
            owner = part if part in slopes else ""
            slopes[owner] = slopes[owner] + length.slope
        return tuple([(part, slope) for part, slope in slopes.items()])

    def __contains__(self, s):
        return s in self._stretch

    def run(self, s):
        """The Run at one s of the cell; raises NoSpeed for any other value."""
        if not isinstance(s, Number) or s not in self._stretch:
            raise NoSpeed(s)
        return run(self._program, speeds_at(self._question, s))

    def row(self):
        """The cell in plain values."""
        stretch, line = self._stretch, self._time
        low, high = pair_of(stretch.low), pair_of(stretch.high)
        ends = (low, stretch.has_low, high, stretch.has_high)
        return (*ends, pair_of(line.base), pair_of(line.slope), *self._trace.story)

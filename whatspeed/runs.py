"""Runs of a program with given speeds."""

from whatspeed.errors import BadTime, NoTask, NoThing
from whatspeed.exact import Number
from whatspeed.fields import trace_at
from whatspeed.questions import check_speeds, is_within
from whatspeed.values import is_same, pair_of


def run(program, speeds=()):
    """The Run of a program; raises BadSpeeds."""
    check_speeds(program, speeds)
    return Run(program, trace_at(program, speeds))


def shows_run(program, speeds, value):
    """Whether any value is what the run tells as rows; raises BadSpeeds."""
    return is_same(run(program, speeds).rows(), value)


class Run:
    """How a program ran, which never changes."""

    def __init__(self, program, trace):
        self._program = program
        self._trace = trace
        self._outcome, told = trace.story
        self._times = tuple([when.base for when in trace.whens()])
        self._moments = tuple(zip(self._times, told))
        self._events = trace.events_told()
        self._outputs = tuple([(when.base, task, value) for when, task, value in trace.outputs_told()])

    @property
    def program(self):
        """The program that ran."""
        return self._program

    @property
    def time(self):
        """The time of the last moment."""
        return self._times[-1]

    @property
    def outcome(self):
        """How it ended: done, stuck, fault or long."""
        return self._outcome

    @property
    def events(self):
        """All events, in the sequence in which they happened."""
        return self._events

    @property
    def outputs(self):
        """(time, task, value) for all outputs, in their sequence."""
        return self._outputs

    @property
    def moments(self):
        """(time, its events) for all moments, in their sequence."""
        return self._moments

    def time_of(self, index):
        """The time of an event; raises NoEvent."""
        return self._trace.when_told(index).base

    def state(self, time):
        """The State at the end of the last moment that is not later; raises BadTime."""
        if not is_within(time, Number(0), self._times[-1]):
            raise BadTime(time)
        return self._state_of(self._moment_at(time))

    def first(self, test):
        """The time of the first moment for whose State the test returns a true value; None if there is none."""
        for at, time in enumerate(self._times):
            if test(self._state_of(at)):
                return time
        return None

    def account(self, task):
        """(word, name, length) for all that took the task some time, ascending; raises NoTask."""
        return tuple([(word, name, length.base) for word, name, length in self._trace.account_of(task)])

    def chain(self):
        """The links (word, task, line, length) that explain the time, from the last one back to time 0."""
        return tuple([(word, task, line, length.base) for word, task, line, length in self._trace.links()])

    def samples(self, every):
        """A generator of (time, cores) for the times 0, every, twice every and so on."""
        time = Number(0)
        at = 0
        while not self._times[-1].is_less(time):
            while at + 1 < len(self._times) and not time.is_less(self._times[at + 1]):
                at += 1
            yield (time, self._trace.passed[at].scene.works)
            time = time + every

    def rows(self):
        """The run in plain values."""
        moments = tuple([(pair_of(time), told) for time, told in self._moments])
        return (pair_of(self._times[-1]), self._outcome, moments)

    def _moment_at(self, time):
        """The index of the last moment that is not later than a time."""
        return len([moment for moment in self._times if not time.is_less(moment)]) - 1

    def _state_of(self, at):
        return State(self._times[at], self._trace.passed[at].scene)


class State:
    """What stands at the end of a moment of a run."""

    def __init__(self, time, scene):
        self._time = time
        self._scene = scene

    @property
    def time(self):
        """The time of the moment."""
        return self._time

    @property
    def cells(self):
        """(name, value) for all cells, in their sequence."""
        return self._scene.shared

    def __getitem__(self, task):
        if not self._has_task(task):
            raise NoTask(task)
        return self._scene.conditions[task]

    def __iter__(self):
        raise TypeError("a State cannot be iterated over")

    def queue(self, name):
        """The values in a queue, the eldest first; raises NoThing."""
        if not isinstance(name, str) or name not in self._scene.queued:
            raise NoThing(name)
        return self._scene.queued[name]

    def holder(self, name):
        """The task that holds a lock; None if it is free; raises NoThing."""
        if not isinstance(name, str) or name not in self._scene.holders:
            raise NoThing(name)
        return self._scene.holders[name]

    def variable(self, task, name):
        """The value of a variable of the task alone; 0 for every other value; raises NoTask."""
        if not self._has_task(task):
            raise NoTask(task)
        return self._scene.own[task].get(name, 0) if isinstance(name, str) else 0

    def _has_task(self, task):
        return isinstance(task, str) and task in self._scene.conditions

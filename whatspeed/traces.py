"""What a run leaves behind: its moments with all that can be asked about them. Lengths of time are Lines here."""

from whatspeed.errors import NoEvent, NoTask
from whatspeed.exact import Line, Number, is_whole
from whatspeed.ticks import minus

# The conditions that an account leaves out.
LEFT_OUT = ("later", "end")


class Scene:
    """What stands at the end of a moment.

    conditions, own and queued are by tasks and queues; works has (task, part or "") or None for each core.
    """

    def __init__(self, conditions, works, own, shared, queued, holders):
        self.conditions = conditions
        self.works = works
        self.own = own
        self.shared = shared
        self.queued = queued
        self.holders = holders

    def account_of(self, task):
        """What an account calls the condition of a task: (word, name); None if it leaves it out."""
        condition = self.conditions[task]
        if condition[0] in LEFT_OUT:
            return None
        if condition[0] == "run":
            part = [work[1] for work in self.works if work is not None and work[0] == task]
            return ("work", part[0])
        return condition if len(condition) > 1 else (condition[0], "")


class Moment:
    """A moment: its time, its events, the Scene at its end, and its opening.

    The opening is (word, task, line, index of the moment at which this began); None for the first moment.
    """

    def __init__(self, when, told, scene, opening):
        self.when = when
        self.told = told
        self.scene = scene
        self.opening = opening


class Trace:
    """All of a run: how it ended, its Moments, and its outputs (index of the moment, task, value)."""

    def __init__(self, ending, passed, said, scale):
        self.passed = passed
        self.story = (ending, tuple([moment.told for moment in passed]))
        self._said = said
        self._scale = scale
        self._whens = tuple([scale.line_of(moment.when) for moment in passed])

    def whens(self):
        """The times of all moments."""
        return self._whens

    def events_told(self):
        """All events, in their sequence."""
        return tuple([event for moment in self.passed for event in moment.told])

    def outputs_told(self):
        """(time, task, value) for all outputs."""
        return tuple([(self._whens[at], task, value) for at, task, value in self._said])

    def when_told(self, index):
        """The time of an event; raises NoEvent for any value that is no index of one."""
        if is_whole(index) and index >= 0:
            left = index
            for when, moment in zip(self._whens, self.passed):
                if left < len(moment.told):
                    return when
                left = left - len(moment.told)
        raise NoEvent(index)

    def account_of(self, task):
        """(word, name, length) for all conditions of a task that took time; raises NoTask for any other value."""
        if not isinstance(task, str) or task not in self.passed[0].scene.conditions:
            raise NoTask(task)
        none = Line(Number(0), Number(0))
        # None of the lengths stays 0, because no two moments are at the same time.
        lengths = {}
        for at in range(len(self.passed) - 1):
            row = self.passed[at].scene.account_of(task)
            if row is not None:
                lengths[row] = lengths.get(row, none) + self._whens[at + 1] - self._whens[at]
        return tuple([(*row, lengths[row]) for row in sorted(lengths)])

    def links(self):
        """The chain: (word, task, line, length) from the last moment back to the first one."""
        found = []
        at = len(self.passed) - 1
        while at > 0:
            word, task, line, began = self.passed[at].opening
            length = minus(self.passed[at].when, self.passed[began].when)
            found.append((word, task, line, self._scale.line_of(length)))
            at = began
        return tuple(found)

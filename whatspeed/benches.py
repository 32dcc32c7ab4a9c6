"""Benches: programs that are edited, with undo, redo and trials."""

from whatspeed.asking import slower, unlike
from whatspeed.curves import curve
from whatspeed.errors import BadProgram, NoLine, NothingToRedo, NothingToUndo
from whatspeed.exact import is_whole
from whatspeed.programs import Program
from whatspeed.questions import check_question
from whatspeed.runs import run


class History:
    """The Programs ahead of the edits, the present one, and those behind the edits taken back. It never changes."""

    def __init__(self, past, present, future):
        self.past = past
        self.present = present
        self.future = future

    def edited(self, program):
        """The History behind an edit."""
        return History((*self.past, self.present), program, ())

    def undone(self):
        """The History without the last edit; raises NothingToUndo."""
        if not self.past:
            raise NothingToUndo()
        return History(self.past[:-1], self.past[-1], (self.present, *self.future))

    def redone(self):
        """The History with the edit that was taken back last; raises NothingToRedo."""
        if not self.future:
            raise NothingToRedo()
        return History((*self.past, self.present), self.future[0], self.future[1:])


class Bench:
    """A program that is edited; raises as Program."""

    def __init__(self, text):
        self.history = History((), Program(text), ())

    @property
    def text(self):
        """The text of the present program."""
        return self.history.present.text

    @property
    def program(self):
        """The present program."""
        return self.history.present

    def edit(self, line, count, text):
        """Replaces lines by those of a text, or by none; raises NoLine, BadProgram, or as Program for the whole."""
        lines = self.program.lines
        if not _is_place(line, len(lines)):
            raise NoLine(line)
        if not _is_place(count, len(lines) - line):
            raise NoLine(count)
        if text is not None and not isinstance(text, str):
            raise BadProgram(line)
        new = () if text is None else (text,)
        whole = "\n".join(lines[:line] + new + lines[line + count:])
        self.history = self.history.edited(Program(whole))

    def undo(self):
        """Takes the last edit back; raises NothingToUndo."""
        self.history = self.history.undone()

    def redo(self):
        """Makes the edit again that was taken back last; raises NothingToRedo."""
        self.history = self.history.redone()

    def run(self, speeds=()):
        """The Run of the present program; raises BadSpeeds."""
        return run(self.program, speeds)

    def curve(self, question):
        """The Curve of the present program; raises BadQuestion, then TooMany."""
        return curve(self.program, question)

    def change(self, question):
        """(slower, unlike): what the last edit changed; raises NothingToUndo, BadQuestion, TooMany."""
        former = self.history.undone().present
        # Both are checked before a curve can have too many cells.
        for program in (former, self.program):
            check_question(program, question)
        one, other = curve(former, question), curve(self.program, question)
        return (slower(one, other), unlike(one, other))

    def trial(self):
        """What a with block is opened by, behind which all is as it was ahead of it."""
        return Trial(self)

    def tried(self, action, *, keep=False):
        """Calls an action with the bench within a trial, and returns what it returned."""
        with self.trial() as held:
            if keep is True:
                held.keep()
            return action(self)


class Trial:
    """A block within which a bench is used; behind it the bench is as it was, unless the trial is kept."""

    def __init__(self, bench):
        self.history = bench.history
        self._bench = bench
        self._ahead = bench.history
        self._owner = bench

    def __enter__(self):
        self._ahead = self._bench.history
        self._owner = self._bench
        return self

    def keep(self):
        """Lets the bench stay as the block leaves it, if no error leaves it."""
        # Behind the block its owner gets the former history back: of a kept trial that is not the bench.
        self._owner = self

    def __exit__(self, kind, value, trace):
        if kind is not None:
            self._owner = self._bench
        owner = self._owner
        owner.history = self._ahead


def _is_place(value, most):
    """Whether any value is an integer from 0 to the most."""
    return is_whole(value) and 0 <= value <= most

"""Programs: texts that keep all rules for them."""

from whatspeed.errors import BadProgram
from whatspeed.plans import Plan
from whatspeed.reading import check_doubled, check_named, declared_names, read_forms


class Program:
    """A program, which never changes; raises BadProgram, Doubled or Unnamed, in this sequence."""

    def __init__(self, text):
        if not isinstance(text, str):
            raise BadProgram(0)
        lines = text.split("\n")
        forms = read_forms(lines)
        check_doubled(forms)
        check_named(forms)
        self._text = text
        self._lines = tuple(lines)
        self._parts = declared_names(forms, "part")
        self._tasks = declared_names(forms, "task")
        self._plan = Plan(forms)

    @property
    def text(self):
        """The whole text."""
        return self._text

    @property
    def lines(self):
        """The lines of the text."""
        return self._lines

    @property
    def parts(self):
        """The names of the parts, in their sequence."""
        return self._parts

    @property
    def tasks(self):
        """The names of the tasks, in their sequence."""
        return self._tasks

    @property
    def plan(self):
        """What the text says, for those who run it."""
        return self._plan

    def __eq__(self, other):
        return isinstance(other, Program) and self._text == other._text

"""What a program says, as running it needs it: each statement knows the line that is taken behind it."""

from whatspeed.reading import BLOCKS, DECLARES, declared_names


class Statement:
    """A statement: its line, its form, and the lines to which one goes from there (None: the task ends).

    onward is where one goes on; aside is where one goes instead if the block of the statement is passed over.
    """

    def __init__(self, line, form, onward, aside):
        self.line = line
        self.kind = form.kind
        self.found = form.found
        self.onward = onward
        self.aside = aside


class Task:
    """A task: its name and line, its own rank, whether it begins later, and the line of its first statement."""

    def __init__(self, line, form, entry):
        self.line = line
        self.name = form.found[1]
        self.rank = form.found[2]
        self.is_later = form.kind == "later"
        self.entry = entry


class Plan:
    """All that a program says."""

    def __init__(self, forms):
        layout = Layout(forms)
        self.core_count = forms[0].found[1]
        self.slice_length = forms[1].found[1]
        self.lock_names = declared_names(forms, "lock")
        self.lent_names = tuple([form.found[1] for form in forms if form.kind == "lent"])
        self.queue_rooms = tuple([form.found[1:] for form in forms if form.kind == "queue"])
        self.cell_firsts = tuple([form.found[1:] for form in forms if form.kind == "cell"])
        self.task_plans = layout.find_tasks()
        self.statements = layout.find_statements()

    def part_of(self, line):
        """The part to which the work of a line belongs; "" if it belongs to none."""
        found = self.statements[line].found
        return found[2] if len(found) > 2 else ""


class Layout:
    """Where the blocks of a program begin, turn and end."""

    def __init__(self, forms):
        self._forms = forms
        # The line of the block to which an else or an end belongs, and for each such block the lines of both.
        self._openers = {}
        self._elses = {}
        self._ends = {}
        self._find_blocks()

    def find_tasks(self):
        """The Tasks, in their sequence."""
        lines = [at for at, form in enumerate(self._forms) if DECLARES.get(form.kind) == "task"]
        return tuple([Task(at, self._forms[at], self._landing(at + 1)) for at in lines])

    def find_statements(self):
        """The Statements of all lines; nobody comes to those that are none."""
        return tuple([
            Statement(at, form, self._landing(at + 1), self._aside(at)) for at, form in enumerate(self._forms)
        ])

    def _find_blocks(self):
        opened = []
        for at, form in enumerate(self._forms):
            if form.kind in BLOCKS:
                opened.append(at)
            elif form.kind == "else":
                self._openers[at] = opened[-1]
                self._elses[opened[-1]] = at
            elif form.kind == "end":
                self._openers[at] = opened[-1]
                self._ends[opened.pop()] = at

    def _landing(self, at):
        """The line of the statement that is taken when one comes to a line; None behind the task's last one."""
        while at < len(self._forms) and self._forms[at].kind not in DECLARES:
            if self._forms[at].kind not in ("else", "end"):
                return at
            opener = self._openers[at]
            if self._forms[opener].kind != "if":
                return opener
            at = self._ends[opener] + 1
        return None

    def _aside(self, at):
        if at not in self._ends:
            return None
        return self._landing(self._elses.get(at, self._ends[at]) + 1)

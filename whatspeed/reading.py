"""Reading the lines of a program: where each of them can stand, and what it may name."""

from whatspeed.errors import BadProgram, Doubled, Unnamed
from whatspeed.forms import CORES, DECLARATIONS, SLICE, STATEMENTS, TASKS, WANTED, read_form

MOST_LINES = 80
DEEPEST = 6
BLOCKS = ("if", "while", "repeat")

# The kinds of the forms that declare a name, with what it is then one of; and how many there may be of these.
DECLARES = {
    "lock": "lock",
    "lent": "lock",
    "queue": "queue",
    "cell": "cell",
    "part": "part",
    "task": "task",
    "later": "task",
}
MOST = {"lock": 4, "queue": 3, "cell": 4, "part": 5, "task": 6}


def read_forms(lines):
    """The Forms of all lines; raises BadProgram at the first line that cannot stand."""
    reading = Reading()
    for line in lines:
        reading.add_line(line)
    reading.end()
    return reading.forms()


def check_doubled(forms):
    """Raises Doubled at the first line that declares a name once more."""
    declared = set()
    for at, form in enumerate(forms):
        if form.kind in DECLARES:
            if form.found[1] in declared:
                raise Doubled(at)
            declared.add(form.found[1])


def check_named(forms):
    """Raises Unnamed at the first line that uses a name for what it is not declared as."""
    kinds = {form.found[1]: form.kind for form in forms if form.kind in DECLARES}
    for at, form in enumerate(forms):
        for slot, name in form.uses():
            if kinds.get(name) not in WANTED[slot]:
                raise Unnamed(at)


def declared_names(forms, group):
    """The names of all locks, queues, cells, parts or tasks, in their sequence."""
    return tuple([form.found[1] for form in forms if DECLARES.get(form.kind) == group])


class Reading:
    """The Forms of the lines that were read, and the kinds of the blocks that are not ended yet."""

    def __init__(self):
        self._forms = []
        self._blocks = []

    def forms(self):
        """The Forms of all lines so far."""
        return tuple(self._forms)

    def add_line(self, line):
        """Reads one more line; raises BadProgram if it, or a task just ahead of it, cannot stand."""
        at = len(self._forms)
        form = read_form(line.split(" "), self._table())
        if form is None:
            raise BadProgram(at)
        if form.kind in ("task", "later"):
            self._check_last_task()
        if at >= MOST_LINES or not self._can_stand(form.kind):
            raise BadProgram(at)
        self._change_blocks(form.kind)
        self._forms.append(form)

    def end(self):
        """Raises BadProgram if the program cannot end here."""
        self._check_last_task()
        if self._blocks or not declared_names(self._forms, "task"):
            raise BadProgram(len(self._forms))

    def _table(self):
        at = len(self._forms)
        if at == 0:
            return CORES
        if at == 1:
            return SLICE
        if declared_names(self._forms, "task"):
            return STATEMENTS + TASKS
        return DECLARATIONS + TASKS

    def _check_last_task(self):
        if self._forms and self._forms[-1].kind in ("task", "later"):
            raise BadProgram(len(self._forms) - 1)

    def _can_stand(self, kind):
        if kind in DECLARES:
            group = DECLARES[kind]
            return not self._blocks and len(declared_names(self._forms, group)) < MOST[group]
        if kind in BLOCKS:
            return len(self._blocks) < DEEPEST
        if kind == "else":
            return self._blocks[-1:] == ["if"]
        if kind == "end":
            return len(self._blocks) > 0
        return True

    def _change_blocks(self, kind):
        if kind in BLOCKS:
            self._blocks.append(kind)
        elif kind == "else":
            # A block that is called so takes no second else.
            self._blocks[-1] = "else"
        elif kind == "end":
            self._blocks.pop()

"""The forms that a line of a program can have.

A table has a row (kind, slots) for each form. A slot is a word that stands there as it is, the bounds (low, high) of
an integer, or one of these: "NEW" (a name that is declared), a key of WANTED (a name that is used), "VALUE" (an
expression, which is the rest of the line).
"""

from whatspeed.expressions import read_expression, variables_of
from whatspeed.words import is_name, read_whole

CORES = (("cores", ("cores", (1, 3))),)
SLICE = (("slice", ("slice", (0, 20))),)
DECLARATIONS = (
    ("lock", ("lock", "NEW")),
    ("lent", ("lock", "NEW", "lent")),
    ("queue", ("queue", "NEW", (1, 4))),
    ("cell", ("cell", "NEW", (0, 999))),
    ("part", ("part", "NEW")),
)
TASKS = (
    ("task", ("task", "NEW", (1, 9))),
    ("later", ("task", "NEW", (1, 9), "later")),
)
STATEMENTS = (
    ("work", ("work", (0, 99))),
    ("work", ("work", (0, 99), "PART")),
    ("set", ("VARIABLE", "=", "VALUE")),
    ("if", ("if", "VALUE")),
    ("else", ("else",)),
    ("end", ("end",)),
    ("while", ("while", "VALUE")),
    ("repeat", ("repeat", (0, 50))),
    ("get", ("lock", "LOCK")),
    ("unlock", ("unlock", "LOCK")),
    ("put", ("put", "QUEUE", "VALUE")),
    ("take", ("take", "QUEUE", "VARIABLE")),
    ("sleep", ("sleep", (0, 99))),
    ("start", ("start", "LATER")),
    ("wait", ("wait", "TASK")),
    ("say", ("say", "VALUE")),
)

# What a name must be declared as that is used in such a slot; None: it may be declared as nothing at all.
WANTED = {
    "LOCK": ("lock", "lent"),
    "QUEUE": ("queue",),
    "PART": ("part",),
    "TASK": ("task", "later"),
    "LATER": ("later",),
    "VARIABLE": ("cell", None),
}


class Form:
    """A line that was read: its kind, the slots of its form, and what stands in each of them."""

    def __init__(self, kind, slots, found):
        self.kind = kind
        self.slots = slots
        self.found = found

    def uses(self):
        """Pairs (slot, name) for all names that are used in the line."""
        pairs = []
        for slot, found in zip(self.slots, self.found):
            if slot in WANTED:
                pairs.append((slot, found))
            elif slot == "VALUE":
                pairs.extend([("VARIABLE", name) for name in variables_of(found)])
        return pairs


def read_form(words, table):
    """The Form of a line that has one of the table; None if it has none of them."""
    for kind, slots in table:
        if _has_length(words, slots):
            found = _read_slots(words, slots)
            if found is not None:
                return Form(kind, slots, found)
    return None


def _has_length(words, slots):
    if slots[-1] == "VALUE":
        return len(words) >= len(slots)
    return len(words) == len(slots)


def _read_slots(words, slots):
    found = []
    for at, slot in enumerate(slots):
        one = read_expression(words[at:]) if slot == "VALUE" else _read_word(words[at], slot)
        if one is None:
            return None
        found.append(one)
    return tuple(found)


def _read_word(word, slot):
    if isinstance(slot, tuple):
        low, high = slot
        return read_whole(word, low, high)
    if slot == "NEW" or slot in WANTED:
        return word if is_name(word) else None
    return word if word == slot else None

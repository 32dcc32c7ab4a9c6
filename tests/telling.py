"""Short ways to write programs, numbers and offers in tests, and to tell what came out."""

import unittest
from fractions import Fraction

from whatspeed.curves import curve
from whatspeed.exact import Number
from whatspeed.programs import Program
from whatspeed.runs import run

# The examples of sections 5 and 10, and two with a cell for each meeting of two tasks.
DOOR = [
    "lock door", "part fetch", "task low 1; work 4 fetch; lock door; work 3; unlock door",
    "task high 2; sleep 5; lock door; work 2; unlock door; say 1",
]
GATE = [
    "cores 2", "lock door", "part fetch", "task low 1; work 4 fetch; lock door; work 30; unlock door",
    "task high 2; sleep 5; lock door; work 2; unlock door; work 40",
]
MANY = ["cores 2", "part dig", "task one 1; repeat 20; work 1 dig; end", "task two 1; repeat 20; work 1; end"]

# With dig from 0 to 1/99 the tasks never meet, unless haul has a factor near to 0: then they meet too often.
MANY_BY_HAUL = [
    "cores 2", "part dig", "part haul", "task one 1; repeat 20; work 1 dig; end",
    "task two 1; repeat 20; work 1 haul; end",
]


def program(*rows):
    """A Program; a row may hold several lines with `; ` between, and cores 1 and slice 0 may be left out."""
    lines = [line for row in rows for line in row.split("; ")]
    if not lines[0].startswith("cores"):
        lines.insert(0, "cores 1")
    if not lines[1].startswith("slice"):
        lines.insert(1, "slice 0")
    return Program("\n".join(lines))


def speeds(**factors):
    """Speeds; a factor is an integer, or a text such as 3/2."""
    return tuple((part, number(factors[part])) for part in sorted(factors))


def question(**pairs):
    """A question; each part has a pair (start, goal)."""
    return tuple((part, number(start), number(goal)) for part, (start, goal) in sorted(pairs.items()))


def offers(*rows):
    """Offers, or a choice; each row is a text such as `fetch 3/2 5`."""
    return tuple((part, number(factor), int(price)) for part, factor, price in map(str.split, rows))


def number(value):
    """A Number, of an integer, a Fraction or a text such as 3/2."""
    return Number(*Fraction(value).as_integer_ratio())


def fraction(value):
    """A Number as a Fraction; None stays as it is."""
    return None if value is None else Fraction(value.top, value.bottom)


def told(one):
    """The moments of a run or a cell: `TIME: WORD TASK NUMBER, ..` for each, the times as texts."""
    return [f"{amount(when)}: " + ", ".join(" ".join(map(str, event)) for event in events)
            for when, events in one.moments]


def amount(value):
    """A Number or a Line as a text: 3/2, 5+8s."""
    if isinstance(value, Number):
        return str(fraction(value))
    sign = "+" if value.slope.top > 0 else ""
    return f"{fraction(value.base)}{sign}{fraction(value.slope)}s" if value.slope else str(fraction(value.base))


def links(one):
    """The chain of a run or a cell: `WORD TASK LINE LENGTH` for each link."""
    return [f"{word} {task} {line} {amount(length)}" for word, task, line, length in one.chain()]


def spent(one, task):
    """The account of a task: `WORD NAME LENGTH` for each row."""
    return [f"{word} {name} {amount(length)}" for word, name, length in one.account(task)]


def said(one):
    """The outputs: `TIME TASK VALUE` for each."""
    return [f"{amount(when)} {task} {value}" for when, task, value in one.outputs]


def shown(stretch):
    """A Stretch as a text: [0 1/2)."""
    if stretch is None:
        return None
    low, high = "[" if stretch.has_low else "(", "]" if stretch.has_high else ")"
    return f"{low}{fraction(stretch.low)} {fraction(stretch.high)}{high}"


def shown_all(stretches):
    """Stretches as one text, with blanks between."""
    assert type(stretches) is tuple
    return " ".join(shown(stretch) for stretch in stretches)


def pieces_of(one):
    """The cells of a curve: STRETCH OUTCOME TIME for each."""
    return [f"{shown(cell.stretch)} {cell.outcome} {amount(cell.time)}" for cell in one.cells]


def changed(value):
    """All values that come from a plain value, or one with Numbers in it, by a change in one place."""
    yield from wrong_ones(value)
    if isinstance(value, tuple):
        for at, item in enumerate(value):
            for other in changed(item):
                yield (*value[:at], other, *value[at + 1:])


def wrong_ones(value):
    """What a plain value must not be taken for."""
    if isinstance(value, tuple):
        parts = [value[:-1], value[1:]] if value else []
        return [list(value), (*value, 1), (*value, value), None, (value,), {}, *parts]
    if isinstance(value, bool):
        return [not value, int(value), None, str(value)]
    if isinstance(value, int):
        truths = [bool(value)] if value in (0, 1) else []
        return [value + 1, -value - 1, str(value), None, number(value), (value,), *truths]
    if isinstance(value, Number):
        pair = (value.top, value.bottom)
        return [value + Number(2), value - Number(2), value.top, pair, amount(value), None, [value]]
    return [value + " ", value[:-1], value.upper(), [value], (value,), None, 1]


class RunCase(unittest.TestCase):
    """Tests of how programs run."""

    maxDiff = None

    def runs(self, rows, moments, outcome="done", outputs=None, **factors):
        """Checks all moments, the outcome and the outputs of a run, and returns it."""
        one = run(program(*rows), speeds(**factors))
        self.assertEqual(told(one), moments)
        self.assertEqual(one.outcome, outcome)
        if outputs is not None:
            self.assertEqual(said(one), outputs)
        return one

    def refuses(self, error, value, action, *args, **more):
        """Checks that a call raises this very error, with this very value."""
        with self.assertRaises(error) as caught:
            action(*args, **more)
        self.assertIs(type(caught.exception), error)
        self.assertIs(caught.exception.value, value)


class CurveCase(RunCase):
    """Tests of curves."""

    def curves(self, rows, cells, **pairs):
        """Checks the cells of a curve, and returns it."""
        one = curve(program(*rows), question(**pairs))
        self.assertEqual(pieces_of(one), cells)
        return one

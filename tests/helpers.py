"""What several tests need: values of every kind, and programs with one line put in."""

import unittest

from whatspeed.errors import BadProgram
from whatspeed.exact import Line, Number, Stretch
from whatspeed.programs import Program

KEPT = (
    "cores slice lock lent queue cell part task later work if else end while repeat unlock put take sleep start wait "
    "say"
).split()

# Signs that are neither a blank, nor a line feed, nor a digit 0 to 9, nor a letter a to z.
STRANGE_SIGNS = "\t\r\x00\x0b\x0c\x1c\x1d\x1e\x1f\x85\xa0\u1680\u2003\u2028\u2029\u3000\u200b\ufeff_.,-'\"%\\"
STRANGE_DIGITS = "\u0661\u00b2\u2460\uff11\u0967"
STRANGE_LETTERS = "A\u00e4\u00df\u0430\uff41\u00aa\u0131"


def deep(depth):
    """Lists, tuples and dicts in one another."""
    value = 1
    for at in range(depth):
        value = ([value], (value,), {"a": value})[at % 3]
    return value


def others():
    """Values of every kind; integers and Numbers are not among them."""
    return [
        True, False, None, "", "a", "1", "cores 1", "\u00e4", (), (1,), (1, 2), ("a", None), [], [1], [1, 2], {},
        {"a": 1}, {1: {2: [3]}}, deep(30), Line(Number(1), Number(2)), Stretch(Number(0), Number(1)),
        Program("cores 1\nslice 0\ntask one 1\nsay 1"), [Number(1)], (Number(1), Number(2)),
    ]


def any_values():
    """Values of every kind."""
    return others() + [0, 1, -1, 2, 999, 10 ** 40, -(10 ** 40), Number(0), Number(1), Number(-3, 2)]


# One program in which each form of a line stands.
EVERY_FORM = [
    "cores 2", "slice 3", "lock door", "lock gate lent", "queue line 2", "cell count 5", "part fetch", "task one 1",
    "work 4", "work 4 fetch", "x = 1 + count", "if x > 1", "say x", "else", "say 2", "end", "while x < 3", "x = x + 1",
    "end", "repeat 2", "say x", "end", "lock door", "unlock door", "put line x", "take line y", "sleep 3", "start two",
    "wait two", "say ( x + y ) * 2", "task two 2 later", "work 0",
]


def around(*rows):
    """The lines of a program with the statements put in, the first of them as line 7."""
    head = ["cores 1", "slice 0", "lock door", "queue line 2", "cell count 5", "part fetch", "task one 1"]
    return [*head, *rows, "task two 2 later", "work 1"]


AT = 7


class ProgramCase(unittest.TestCase):
    """Tests of texts that are programs, and of texts that are none."""

    def stands(self, lines):
        text = "\n".join(lines)
        program = Program(text)
        self.assertEqual(program.text, text)
        self.assertEqual(program.lines, tuple(lines))
        return program

    def fails(self, error, line, lines):
        self.fails_text(error, line, "\n".join(lines))

    def fails_text(self, error, line, text):
        with self.assertRaises(error) as caught:
            Program(text)
        self.assertIs(type(caught.exception), error)
        self.assertEqual(caught.exception.line, line)
        self.assertIs(type(caught.exception.line), int)

    def is_bad(self, line, lines):
        self.fails(BadProgram, line, lines)

    def has_form(self, lines):
        """Whether no line is refused for its form or its place."""
        try:
            Program("\n".join(lines))
        except BadProgram:
            return False
        except ValueError:
            return True
        return True

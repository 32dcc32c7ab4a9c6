"""The examples of sections 4 and 5, as they stand there."""

import unittest

from whatspeed.errors import BadNumber, BadProgram, Doubled, Unnamed
from whatspeed.exact import Line, Number, Stretch
from whatspeed.programs import Program

EXAMPLE = """cores 1
slice 0
lock door
part fetch
task low 1
work 4 fetch
lock door
work 3
unlock door
task high 2
sleep 5
lock door
work 2
unlock door
say 1"""


class ExamplesTest(unittest.TestCase):

    def test_number(self):
        one = Number(6, -4)
        self.assertEqual(
            [
                one.top, one.bottom, (one + Number(1)).top, one.is_less(Number(0)),
                Number(1).divided_by(Number(3)) == Number(2, 6),
            ],
            [-3, 2, -1, True, True],
        )

    def test_bad_number(self):
        with self.assertRaises(BadNumber) as caught:
            Number(1, 0)
        self.assertEqual(caught.exception.value, (1, 0))

    def test_line_and_stretch(self):
        line = Line(Number(1), Number(2))
        self.assertEqual(
            [
                line(Number(1, 4)).top, line.meets(Line(Number(2), Number(0))) == Number(1, 2),
                Number(1) in Stretch(Number(0), Number(1), has_high=False),
            ],
            [3, True, False],
        )

    def test_program(self):
        program = Program(EXAMPLE)
        self.assertEqual(program.text, EXAMPLE)
        self.assertEqual([len(program.lines), program.lines[5]], [15, "work 4 fetch"])
        self.assertEqual([program.parts, program.tasks], [("fetch",), ("low", "high")])

    def test_bad_program(self):
        with self.assertRaises(BadProgram) as caught:
            Program("cores 1\nslice 0\ntask one 1")
        self.assertEqual(caught.exception.line, 2)

    def test_doubled(self):
        with self.assertRaises(Doubled) as caught:
            Program("cores 1\nslice 0\nlock one\ntask one 1\nsay 1")
        self.assertEqual(caught.exception.line, 3)

    def test_unnamed(self):
        with self.assertRaises(Unnamed) as caught:
            Program("cores 1\nslice 0\ntask one 1\nwait two")
        self.assertEqual(caught.exception.line, 3)

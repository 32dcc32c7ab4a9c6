"""Section 5: what a Program tells, and when two are equal."""

import unittest

from tests.helpers import EVERY_FORM, any_values
from whatspeed.programs import Program

TEXT = "cores 1\nslice 0\ntask one 1\nsay 1"


class ProgramTest(unittest.TestCase):

    def test_text_and_lines(self):
        text = "\n".join(EVERY_FORM)
        program = Program(text)
        self.assertEqual(program.text, text)
        self.assertEqual(program.lines, tuple(EVERY_FORM))
        self.assertIs(type(program.lines), tuple)
        self.assertEqual(Program(TEXT).lines, ("cores 1", "slice 0", "task one 1", "say 1"))

    def test_argument_by_name(self):
        self.assertEqual(Program(text=TEXT).text, TEXT)

    def test_parts_and_tasks(self):
        program = Program(
            "cores 1\nslice 0\npart zeta\nlock door\npart alpha\ncell count 1\nqueue line 1\npart mid\nlock gate lent\n"
            "task zoo 1\nwork 1 mid\ntask ant 2 later\nsay 1\ntask bee 3\nx = 1"
        )
        self.assertEqual(program.parts, ("zeta", "alpha", "mid"))
        self.assertEqual(program.tasks, ("zoo", "ant", "bee"))
        self.assertIs(type(program.parts), tuple)
        self.assertIs(type(program.tasks), tuple)

    def test_no_parts(self):
        self.assertEqual(Program(TEXT).parts, ())
        self.assertEqual(Program(TEXT).tasks, ("one",))

    def test_equal(self):
        one = Program(TEXT)
        self.assertIs(one == Program("".join(list(TEXT))), True)
        self.assertIs(one != Program("".join(list(TEXT))), False)
        self.assertIs(one == one, True)
        for text in (TEXT + "\nsay 1", TEXT.replace("one", "two"), TEXT.replace("cores 1", "cores 2"), TEXT[:-1] + "2"):
            self.assertIs(one == Program(text), False)
            self.assertIs(one != Program(text), True)

    def test_equal_to_nothing_else(self):
        one = Program(TEXT)
        for value in [*any_values(), TEXT, [TEXT], tuple(TEXT.split("\n")), one.lines]:
            if not isinstance(value, Program):
                with self.subTest(value=value):
                    self.assertIs(one == value, False)
                    self.assertIs(value == one, False)
                    self.assertIs(one != value, True)

    def test_a_program_stays_as_it_was(self):
        one = Program("\n".join(EVERY_FORM))
        rows = [one.text, one.lines, one.parts, one.tasks]
        self.assertFalse(one == Program(TEXT))
        self.assertTrue(one == Program("\n".join(EVERY_FORM)))
        self.assertEqual([one.text, one.lines, one.parts, one.tasks], rows)

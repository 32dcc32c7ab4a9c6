"""Section 11: Bench and edit."""

import copy

from tests.benching import LINES, TEXT, BenchCase, depths, told_error
from tests.helpers import any_values
from whatspeed.benches import Bench
from whatspeed.curves import curve
from whatspeed.errors import BadProgram, Doubled, NoLine, SpeedError, Unnamed
from whatspeed.programs import Program
from whatspeed.runs import run


def no_integers():
    """Values that are no integers."""
    return [value for value in any_values() if isinstance(value, bool) or not isinstance(value, int)]


class NewTest(BenchCase):

    def test_text_and_program(self):
        self.stands(Bench(TEXT), TEXT)
        self.stands(Bench(text=TEXT), TEXT)
        self.assertEqual(depths(Bench(TEXT)), (0, [TEXT]))

    def test_values_of_every_kind(self):
        for value in any_values() + [Bench(TEXT), run(Program(TEXT)), curve(Program(TEXT), ())]:
            with self.subTest(value=value):
                with self.assertRaises(SpeedError) as expected:
                    Program(value)
                with self.assertRaises(SpeedError) as caught:
                    Bench(value)
                self.assertEqual(told_error(caught.exception), told_error(expected.exception))

    def test_texts_that_are_no_programs(self):
        for error, line, lines in [
            (BadProgram, 0, [""]), (BadProgram, 4, LINES[:5]), (BadProgram, 1, ["cores 1", "slice 21", *LINES[2:]]),
            (Doubled, 3, [*LINES[:3], "part dig", *LINES[4:]]), (Unnamed, 8, [*LINES, "lock door"]),
        ]:
            with self.assertRaises(error) as caught:
                Bench("\n".join(lines))
            self.assertEqual(told_error(caught.exception), (error, {"line": line}))

    def test_benches_do_not_share_anything(self):
        one, other = Bench(TEXT), Bench(TEXT)
        one.edit(5, 1, "work 5 dig")
        self.stands(other, TEXT)
        self.assertEqual(depths(other), (0, [TEXT]))


class EditTest(BenchCase):

    def edits(self, line, count, text, lines):
        """Checks what an edit of LINES makes."""
        bench = Bench(TEXT)
        self.assertIsNone(bench.edit(line, count, text))
        expected = "\n".join(lines)
        self.stands(bench, expected)
        self.assertEqual(depths(bench), (1, [TEXT, expected]))

    def test_one_line(self):
        self.edits(5, 1, "work 5 dig", [*LINES[:5], "work 5 dig", *LINES[6:]])
        self.edits(0, 1, "cores 2", ["cores 2", *LINES[1:]])
        self.edits(7, 1, "say 2", [*LINES[:7], "say 2"])

    def test_more_lines_and_fewer(self):
        self.edits(5, 1, "sleep 1\nsleep 2\nsleep 3", [*LINES[:5], "sleep 1", "sleep 2", "sleep 3", *LINES[6:]])
        self.edits(5, 3, "say 7", [*LINES[:5], "say 7"])
        self.edits(5, 2, "say 7\nsay 8", [*LINES[:5], "say 7", "say 8", *LINES[7:]])

    def test_lines_put_in(self):
        self.edits(5, 0, "say 7", [*LINES[:5], "say 7", *LINES[5:]])
        self.edits(2, 0, "cell heap 1\nlock door", [*LINES[:2], "cell heap 1", "lock door", *LINES[2:]])

    def test_at_the_end(self):
        self.edits(8, 0, "say 7", [*LINES, "say 7"])
        self.edits(8, 0, "task two 1\nsay 7", [*LINES, "task two 1", "say 7"])

    def test_lines_taken_out(self):
        self.edits(5, 1, None, [*LINES[:5], *LINES[6:]])
        self.edits(7, 1, None, LINES[:7])
        self.edits(5, 2, None, [*LINES[:5], LINES[7]])

    def test_all_lines(self):
        self.edits(0, 8, "cores 3\nslice 2\ntask tri 1\nsay 3", ["cores 3", "slice 2", "task tri 1", "say 3"])

    def test_nothing_is_changed(self):
        self.edits(0, 0, None, LINES)
        self.edits(8, 0, None, LINES)
        self.edits(3, 0, None, LINES)
        self.edits(5, 1, "work 4 dig", LINES)
        self.edits(0, 8, TEXT, LINES)

    def test_by_name(self):
        bench = Bench(TEXT)
        bench.edit(text="say 2", count=1, line=7)
        self.stands(bench, "\n".join([*LINES[:7], "say 2"]))

    def test_no_line(self):
        for value in [9, 10, -1, -8, 10 ** 40, *no_integers()]:
            bench = Bench(TEXT)
            for count in (0, 1, None, value):
                error = self.stays(bench, NoLine, bench.edit, value, count, "say 1")
                self.assertIs(error.value, value)
            self.stays(bench, NoLine, bench.edit, line=value, count=0, text=5)

    def test_no_count(self):
        for line in range(9):
            bench = Bench(TEXT)
            for value in [9 - line, 10 - line, -1, 10 ** 40, *no_integers()]:
                for text in ("say 1", None, 5):
                    error = self.stays(bench, NoLine, bench.edit, line, value, text)
                    self.assertIs(error.value, value)

    def test_counts_at_the_edge(self):
        for line in range(9):
            bench = Bench(TEXT)
            bench.edit(line, 8 - line, "\n".join(LINES[line:]) if line < 8 else None)
            self.stands(bench, TEXT)
            bench.edit(line, 0, None)
            self.assertEqual(depths(bench), (2, [TEXT] * 3))

    def test_line_is_told_ahead_of_count(self):
        bench = Bench(TEXT)
        self.assertEqual(self.stays(bench, NoLine, bench.edit, 9, -1, None).value, 9)
        self.assertEqual(self.stays(bench, NoLine, bench.edit, -1, 9, 5).value, -1)
        self.assertIs(self.stays(bench, NoLine, bench.edit, True, False, 5).value, True)

    def test_lines_of_now(self):
        bench = Bench(TEXT)
        bench.edit(8, 0, "say 2")
        self.assertEqual(self.stays(bench, NoLine, bench.edit, 10, 0, None).value, 10)
        bench.edit(9, 0, "say 3")
        bench.edit(5, 5, "say 4")
        self.stands(bench, "\n".join([*LINES[:5], "say 4"]))
        self.assertEqual(self.stays(bench, NoLine, bench.edit, 7, 0, None).value, 7)
        self.assertEqual(self.stays(bench, NoLine, bench.edit, 5, 2, None).value, 2)

    def test_no_text(self):
        for value in any_values():
            if value is None or isinstance(value, str):
                continue
            for line in (0, 5, 8):
                bench = Bench(TEXT)
                error = self.stays(bench, BadProgram, bench.edit, line, 0, value)
                self.assertIs(type(error.line), int)
                self.assertEqual(error.line, line)

    def test_empty_lines(self):
        for line, text, bad in [
            (5, "", 5), (0, "", 0), (8, "", 8), (5, "\n", 5), (5, "say 1\n", 6), (5, "\nsay 1", 5),
            (5, "say 1\n\nsay 2", 6), (8, "say 1\n", 9), (8, "\nsay 1", 8),
        ]:
            bench = Bench(TEXT)
            self.assertEqual(self.stays(bench, BadProgram, bench.edit, line, 0, text).line, bad)

    def test_an_empty_program(self):
        bench = Bench(TEXT)
        for text in (None, ""):
            self.assertEqual(self.stays(bench, BadProgram, bench.edit, 0, 8, text).line, 0)

    def test_no_program(self):
        # The lines that are told are those of the whole text that would come.
        for error, bad, line, count, text in [
            (BadProgram, 0, 0, 1, "cores 4"), (BadProgram, 0, 0, 2, None), (BadProgram, 4, 5, 3, None),
            (BadProgram, 4, 4, 1, None), (BadProgram, 8, 5, 3, "if 1\nsay 1\nsay 2"),
            (BadProgram, 7, 5, 1, "say 1\nsay 2\nsay"), (BadProgram, 3, 2, 0, "part pave\nif 1\nend"),
            (Doubled, 3, 3, 0, "part dig"), (Doubled, 5, 2, 0, "part haul\ncell heap 1"),
            (Doubled, 8, 8, 0, "task one 1\nsay 1"), (Unnamed, 4, 2, 1, None), (Unnamed, 8, 8, 0, "lock door"),
            (Unnamed, 6, 5, 0, "say 1\nstart one"),
        ]:
            bench = Bench(TEXT)
            lines = [*LINES[:line], *([] if text is None else text.split("\n")), *LINES[line + count:]]
            with self.assertRaises(SpeedError) as expected:
                Program("\n".join(lines))
            found = self.stays(bench, error, bench.edit, line, count, text)
            self.assertEqual(told_error(found), told_error(expected.exception))
            self.assertEqual(found.line, bad)

    def test_refused_behind_undo(self):
        # What is refused takes nothing of what can be made again.
        bench = Bench(TEXT)
        bench.edit(7, 1, "say 2")
        bench.edit(7, 1, "say 3")
        bench.undo()
        known = depths(bench)
        for error, args in [
            (NoLine, (9, 0, None)), (NoLine, (0, 9, None)), (BadProgram, (5, 0, 7)), (BadProgram, (5, 0, "x")),
            (Unnamed, (2, 1, None)), (Doubled, (2, 0, "part haul")),
        ]:
            self.stays(bench, error, bench.edit, *args)
        self.assertEqual(depths(bench), known)
        bench.redo()
        self.stands(bench, "\n".join([*LINES[:7], "say 3"]))

    def test_arguments_stay_as_they_were(self):
        for value in ([1, {"a": [2]}], {"a": [1]}, ([1],)):
            before = copy.deepcopy(value)
            bench = Bench(TEXT)
            for args in [(value, 0, None), (0, value, None), (0, 0, value)]:
                self.assertRaises(SpeedError, bench.edit, *args)
            self.assertEqual(value, before)

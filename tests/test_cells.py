"""Section 8: class Cell."""

from tests.helpers import any_values, others
from tests.telling import (
    DOOR, CurveCase, amount, fraction, links, number, program, question, said, shown, spent, told,
)
from whatspeed.curves import curve
from whatspeed.errors import NoEvent, NoSpeed, NoTask
from whatspeed.exact import Line, Number, Stretch

RACE = ["cores 2", "part dig", "task one 1; work 2 dig", "task two 1; work 2"]


def door():
    return curve(program(*DOOR), question(fetch=(0, 2)))


class CellTest(CurveCase):

    def test_properties(self):
        cell = door().cells[3]
        self.assertEqual([type(cell.stretch), shown(cell.stretch)], [Stretch, "(1/4 5/8)"])
        self.assertEqual([type(cell.time), amount(cell.time)], [Line, "5+8s"])
        self.assertEqual(cell.outcome, "done")
        self.assertEqual(said(cell), ["5+8s high 1"])
        self.assertEqual(told(cell), [
            "0: run high 0, step high 10, run low 0, step low 5",
            "0+8s: over low 5, step low 6, step low 7",
            "5: wake high 10, stop low 0, run high 0, step high 11, run low 0",
            "3+8s: over low 7, step low 8, go high 11, stop low 0, run high 0, step high 12",
            "5+8s: over high 12, step high 13, step high 14, end high 9, run low 0, end low 4",
        ])
        self.assertEqual(cell.events, tuple(event for _, events in cell.moments for event in events))

    def test_kinds_of_values(self):
        cell = door().cells[3]
        for value in (cell.events, cell.moments, cell.outputs, cell.moments[0], cell.moments[0][1], cell.outputs[0]):
            self.assertIs(type(value), tuple)
        self.assertIs(type(cell.outcome), str)
        self.assertIs(type(cell.moments[1][0]), Line)
        self.assertEqual([type(value) for value in cell.outputs[0]], [Line, str, int])
        self.assertEqual([type(value) for value in cell.chain()[0]], [str, str, int, Line])
        self.assertEqual([type(value) for value in cell.account("low")[0]], [str, str, Line])
        self.assertEqual([type(value) for value in cell.shares()[0]], [str, Number])

    def test_cell_of_a_single_s(self):
        cell = door().cells[4]
        self.assertEqual([shown(cell.stretch), amount(cell.time), said(cell)], ["[5/8 5/8]", "10", ["7 high 1"]])
        self.assertEqual(told(cell), [
            "0: run high 0, step high 10, run low 0, step low 5",
            "5: wake high 10, over low 5, stop low 0, run high 0, step high 11, step high 12",
            "7: over high 12, step high 13, step high 14, end high 9, run low 0, step low 6, step low 7",
            "10: over low 7, step low 8, end low 4",
        ])
        for line, _ in cell.moments:
            self.assertEqual(line.slope, Number(0))
        self.assertEqual(links(cell), ["work low 7 3", "work high 12 2", "sleep high 10 5"])
        self.assertEqual([(part, amount(slope)) for part, slope in cell.shares()], [("fetch", "0"), ("", "0")])

    def test_time_of(self):
        cell = door().cells[3]
        lines = [line for line, events in cell.moments for _ in events]
        self.assertEqual([cell.time_of(index) for index in range(len(cell.events))], lines)
        self.assertEqual(amount(cell.time_of(index=4)), "0+8s")
        wrong = [-1, -24, len(lines), len(lines) + 1, 10 ** 40]
        for value in wrong + others() + [Number(0), Number(1)]:
            with self.subTest(value=value):
                self.refuses(NoEvent, value, cell.time_of, value)

    def test_account(self):
        cell = door().cells[3]
        self.assertEqual(spent(cell, "high"), ["lock door -2+8s", "sleep  5", "work  2"])
        self.assertEqual(spent(cell, "low"), ["ready  2", "work  3", "work fetch 0+8s"])
        self.assertEqual(cell.account(task="low"), cell.account("low"))
        for value in any_values() + ["door", "fetch", ("low",)]:
            with self.subTest(value=value):
                self.refuses(NoTask, value, cell.account, value)

    def test_account_of_a_task_that_never_began(self):
        one = curve(program("part dig", "task one 1; work 1 dig", "task two 1 later; say 1"), question(dig=(1, 2)))
        self.assertEqual([spent(one.cells[0], "one"), one.cells[0].account("two")], [["work dig 1+1s"], ()])

    def test_account_with_a_length_that_is_0_at_an_end(self):
        # The lock's length is 0 at 1/4, which is another cell.
        one = door()
        self.assertEqual([spent(one.cells[at], "high")[0] for at in (2, 3)], ["sleep  5", "lock door -2+8s"])
        self.assertEqual([word for word, _, _ in one.cells[2].run(number("1/4")).account("high")], ["sleep", "work"])

    def test_lengths_that_are_0_everywhere_are_left_out(self):
        rows = ["lock a", "part dig", "task one 1; lock a; unlock a; work 1 dig; work 0"]
        one = curve(program(*rows), question(dig=(1, 2)))
        self.assertEqual(spent(one.cells[0], "one"), ["work dig 1+1s"])

    def test_chain(self):
        one = door()
        self.assertEqual(links(one.cells[0]), ["work high 12 2", "sleep high 10 5"])
        self.assertEqual(links(one.cells[3]), ["work high 12 2", "work low 7 -2+8s", "sleep high 10 5"])
        self.assertEqual(links(one.cells[5]), ["work low 7 3", "work low 5 -5+8s", "work high 12 2", "sleep high 10 5"])

    def test_chain_of_time_0(self):
        one = curve(program("part dig", "task one 1; work 0 dig"), question(dig=(1, 2)))
        self.assertEqual(one.cells[0].chain(), ())

    def test_contains(self):
        one = door()
        for index, inside, outside in [
            (0, [0], ["1/100"]), (1, ["1/100", "1/8", "249/1000"], [0, "1/4", "1/2", 1]),
            (2, ["1/4"], [0, "1/5", "1/3"]), (5, ["626/1000", 1], ["5/8", 0, "11/10", 2]),
        ]:
            self.assertEqual([number(s) in one.cells[index] for s in inside], [True] * len(inside))
            self.assertEqual([number(s) in one.cells[index] for s in outside], [False] * len(outside))
        self.assertIs(Number(1) in one.cells[5], True)
        self.assertIs(Number(-1) in one.cells[0], False)

    def test_run(self):
        one = door()
        for cell in one.cells:
            plain = cell.run(cell.stretch.middle)
            line = cell.time
            self.assertEqual([plain.time, plain.events], [line(cell.stretch.middle), cell.events])
            self.assertIs(plain.program, one.program)
        self.assertEqual(fraction(one.cells[5].run(s=Number(1)).time), 13)
        self.assertEqual(fraction(one.cells[0].run(Number(0)).time), 7)

    def test_no_speed(self):
        one = door()
        wrong = [number(s) for s in (-1, 0, "1/4", "5/8", 1, 2)]
        for value in wrong + others() + [0, 1, -1, 10 ** 40]:
            with self.subTest(value=value):
                self.refuses(NoSpeed, value, one.cells[3].run, value)
        inside = number("1/2")
        for index in (0, 1, 2, 4, 5):
            self.refuses(NoSpeed, inside, one.cells[index].run, inside)
        self.assertEqual(fraction(one.cells[3].run(inside).time), 9)


class SharesTest(CurveCase):

    def shares(self, rows, index, **pairs):
        one = curve(program(*rows), question(**pairs))
        cell = one.cells[index]
        shares = cell.shares()
        self.assertIs(type(shares), tuple)
        self.assertEqual(sum(fraction(slope) for _, slope in shares), fraction(cell.time.slope))
        return [(part, amount(slope)) for part, slope in shares]

    def test_of_the_example(self):
        self.assertEqual(self.shares(DOOR, 1, fetch=(0, 2)), [("fetch", "0"), ("", "0")])
        # The rest of low's work behind the sleep has a slope of its own.
        self.assertEqual(self.shares(DOOR, 3, fetch=(0, 2)), [("fetch", "0"), ("", "8")])
        self.assertEqual(self.shares(DOOR, 5, fetch=(0, 2)), [("fetch", "8"), ("", "0")])

    def test_parts_in_the_sequence_of_the_question(self):
        rows = ["part haul", "part dig", "part pave", "task one 1; work 1 haul; work 2 dig; work 3 pave; work 4"]
        rows.append("work 5 dig")
        self.assertEqual(self.shares(rows, 0, dig=(1, 2), haul=(1, "1/2"), pave=(1, 3)), [
            ("dig", "7"), ("haul", "-1/2"), ("pave", "6"), ("", "0"),
        ])

    def test_parts_that_nothing_is_worked_on(self):
        rows = ["part dig", "part idle", "task one 1; work 1 dig"]
        self.assertEqual(self.shares(rows, 0, dig=(1, 2), idle=(0, 9)), [("dig", "1"), ("idle", "0"), ("", "0")])

    def test_parts_that_are_not_on_the_chain(self):
        rows = ["cores 2", "part dig", "part haul", "task one 1; work 1 dig", "task two 1; work 9 haul"]
        self.assertEqual(self.shares(rows, 0, dig=(1, 2), haul=(1, 2)), [("dig", "0"), ("haul", "9"), ("", "0")])

    def test_parts_that_the_question_does_not_name(self):
        rows = ["part dig", "part haul", "task one 1; work 1 dig; work 9 haul"]
        self.assertEqual(self.shares(rows, 0, dig=(1, 2)), [("dig", "1"), ("", "0")])
        # Here the rest of a work of another part has a slope.
        rows = ["part dig", "part haul", "task one 1; work 9 haul", "task top 2; sleep 1; work 4 dig; sleep 1; work 1"]
        self.assertEqual(self.shares(rows, 0, dig=(1, "11/10")), [("dig", "2/5"), ("", "0")])

    def test_no_part(self):
        self.assertEqual(self.shares(["part dig", "task one 1; work 1 dig"], 0), [("", "0")])

    def test_rest_of_a_work_that_was_stopped(self):
        # one is stopped at 2, and goes on at 2 + the work of top.
        rows = ["part dig", "part haul", "task one 1; work 3 dig", "task top 2; sleep 2; work 2 haul"]
        self.assertEqual(self.shares(rows, 0, dig=(1, 2), haul=(1, 2)), [("dig", "3"), ("haul", "2"), ("", "0")])
        # The sleep ends at a time that does not depend on s, but begins at one that does.
        rows = ["part dig", "part haul", "task top 2; work 1 haul; sleep 2; work 2", "task one 1; work 9 dig"]
        self.assertEqual(self.shares(rows, 0, dig=(1, 1), haul=(1, 2)), [("dig", "0"), ("haul", "1"), ("", "0")])

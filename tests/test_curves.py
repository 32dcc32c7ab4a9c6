"""Section 8: curve, class Curve, shows_curve and shows_cell."""

import inspect
from fractions import Fraction

from tests.helpers import any_values, others
from tests.telling import DOOR, GATE, MANY, CurveCase, amount, changed, fraction, number, program, question, speeds
from whatspeed.curves import curve, shows_cell, shows_curve
from whatspeed.errors import NoSpeed, TooMany
from whatspeed.exact import Number
from whatspeed.runs import run

RACE = ["cores 2", "part dig", "task one 1; work 2 dig", "task two 1; work 2"]
TURNS = ["slice 2", "part dig", "task one 1; work 4 dig", "task two 1; work 3"]

# For s from 0 to 1 the tasks meet whenever j = GOAL * i * s, i and j from 1 to 20.
MEETINGS = sorted({Fraction(j, i) for i in range(1, 21) for j in range(1, 21)})


def near(s, side):
    """A Number just beside a Fraction."""
    return number(s + side * Fraction(1, 10 ** 9))


def no_speeds():
    """Values that are no Numbers from 0 to 1."""
    wrong = [number(-1), number("-1/1000"), number("1001/1000"), number(2), number(10 ** 30)]
    return wrong + others() + [0, 1, -1, 10 ** 40]


class CellsTest(CurveCase):

    def test_six_cells(self):
        self.curves(DOOR, [
            "[0 0] done 7", "(0 1/4) done 7", "[1/4 1/4] done 7", "(1/4 5/8) done 5+8s", "[5/8 5/8] done 10",
            "(5/8 1] done 5+8s",
        ], fetch=(0, 2))

    def test_the_other_way_round(self):
        self.curves(DOOR, [
            "[0 3/8) done 13-8s", "[3/8 3/8] done 10", "(3/8 3/4) done 13-8s", "[3/4 3/4] done 7", "(3/4 1) done 7",
            "[1 1] done 7",
        ], fetch=(2, 0))

    def test_one_cell(self):
        self.curves(DOOR, ["[0 1] done 9"], fetch=(1, 1))
        self.curves(DOOR, ["[0 1] done 8+1s"], fetch=("3/4", 1))

    def test_borders_at_both_ends(self):
        self.curves(RACE, ["[0 0] done 2", "(0 1) done 2", "[1 1] done 2"], dig=(0, 1))
        self.curves(RACE, ["[0 0] done 2", "(0 1] done 2+2s"], dig=(1, 2))
        self.curves(RACE, ["[0 1) done 4-2s", "[1 1] done 2"], dig=(2, 1))

    def test_slices(self):
        # one is over at 4 s * 2: at 2 and at 4 it ends with a slice of its own.
        self.curves(TURNS, [
            "[0 0] done 3", "(0 1/4) done 3+8s", "[1/4 1/4] done 5", "(1/4 1/2) done 3+8s", "[1/2 1/2] done 7",
            "(1/2 1] done 3+8s",
        ], dig=(0, 2))

    def test_two_parts(self):
        rows = ["cores 2", "part dig", "part haul", "task one 1; work 6 dig", "task two 1; work 6 haul"]
        self.curves(rows, [
            "[0 0] done 6", "(0 1/3) done 6-6s", "[1/3 1/3] done 4", "(1/3 1) done 0+12s", "[1 1] done 12",
        ], dig=(0, 2), haul=(1, 0))

    def test_same_time_with_other_stories(self):
        # All of the time is two's; the story changes at 1/2 nevertheless, as it is another one that ends first.
        rows = ["cores 2", "part dig", "task one 1; work 2 dig", "task two 1; work 2; work 5"]
        self.curves(rows, [
            "[0 0] done 7", "(0 1/2) done 7", "[1/2 1/2] done 7", "(1/2 1] done 7",
        ], dig=(0, 2))

    def test_jumps(self):
        self.curves(GATE, [
            "[0 0] done 72", "(0 5/8) done 72+8s", "[5/8 5/8] done 47", "(5/8 7/8) done 47", "[7/8 7/8] done 47",
            "(7/8 1] done 47",
        ], fetch=(0, 2))

    def test_other_outcomes(self):
        # one never holds the lock; and it waits for itself if two was first.
        rows = [
            "cores 2", "lock a", "part dig", "task one 1; work 2 dig; unlock a",
            "task two 1; lock a; work 1; unlock a",
        ]
        self.curves(rows, [
            "[0 0] fault 0", "(0 1/2) fault 0+2s", "[1/2 1/2] fault 1", "(1/2 1] fault 0+2s",
        ], dig=(0, 1))
        rows = [
            "cores 2", "cell heap 0", "part dig", "task one 1; work 2 dig; if heap; wait one; end",
            "task two 1; sleep 1; heap = 1",
        ]
        self.curves(rows, [
            "[0 0] done 1", "(0 1/2) done 1", "[1/2 1/2] done 1", "(1/2 1] stuck 0+2s",
        ], dig=(0, 1))

    def test_long_runs(self):
        rows = ["cores 2", "part dig", "task one 1; work 9 dig; say 1", "task two 1; while 1; sleep 1; end"]
        self.curves(rows, ["[0 1] long 99"], dig=("43/5", "173/20"))

    def test_time_0(self):
        self.curves(["part dig", "task one 1 later; work 1 dig"], ["[0 1] done 0"], dig=(0, 9))

    def test_times_within_cells_are_lines(self):
        one = self.curves(DOOR, [
            "[0 1/4) done 9+4s", "[1/4 1/4] done 10", "(1/4 1] done 9+4s",
        ], fetch=(1, 2))
        self.assertEqual([amount(line) for line, _ in one.cells[0].moments], ["0", "4+4s", "5", "7+4s", "9+4s"])
        self.assertEqual([amount(line) for line, _ in one.cells[1].moments], ["0", "5", "7", "10"])
        self.assertEqual([amount(line) for line, _ in one.cells[2].moments], ["0", "5", "7", "6+4s", "9+4s"])

    def test_stretches_are_as_long_as_they_can_be(self):
        # Works that are over at other times change nothing in the sequence of the events.
        rows = ["cores 2", "part dig", "task one 1; work 4 dig; work 4 dig", "task two 1; sleep 99"]
        self.curves(rows, ["[0 1] done 99"], dig=("1/9", 9))

    def test_runs_beside_all_borders(self):
        for rows, pairs in [(DOOR, {"fetch": (0, 2)}), (TURNS, {"dig": (0, 2)}), (RACE, {"dig": (3, 0)})]:
            one = curve(program(*rows), question(**pairs))
            for s in [fraction(border) for border in one.borders()]:
                # At s, just below and just above it.
                sides = [side for side in (-1, 0, 1) if 0 < s < 1 or 0 <= s + side <= 1]
                for place in [near(s, side) for side in sides]:
                    plain = run(one.program, one.speeds(place))
                    cell = one[place]
                    self.assertEqual(one(place), plain.time)
                    self.assertEqual(cell.outcome, plain.outcome)
                    self.assertEqual(cell.events, plain.events)
                    self.assertEqual(len([cell for cell in one.cells if place in cell]), 1)


class CurveTest(CurveCase):

    def door(self):
        return curve(program(*DOOR), question(fetch=(0, 2)))

    def test_properties(self):
        text, asked = program(*DOOR), question(fetch=(0, 2))
        one = curve(text, asked)
        self.assertIs(one.program, text)
        self.assertEqual(one.question, asked)
        self.assertEqual([type(one.cells), len(one.cells)], [tuple, 6])

    def test_len(self):
        self.assertEqual([len(self.door()), len(curve(program(*DOOR), ()))], [6, 1])

    def test_cannot_be_iterated_over(self):
        with self.assertRaises(TypeError):
            iter(self.door())
        with self.assertRaises(TypeError):
            list(self.door())
        with self.assertRaises(TypeError):
            for _ in self.door():
                pass

    def test_time_at(self):
        one = self.door()
        times = [(0, 7), ("1/8", 7), ("1/4", 7), ("1/2", 9), ("5/8", 10), ("3/4", 11), (1, 13)]
        for s, time in times:
            self.assertEqual(fraction(one(number(s))), time)
        self.assertIs(type(one(Number(0))), Number)
        self.assertEqual(fraction(one(s=number("1/3"))), Fraction(23, 3))

    def test_cell_at(self):
        one = self.door()
        for s, index in [(0, 0), ("1/1000", 1), ("1/4", 2), ("1/3", 3), ("5/8", 4), ("626/1000", 5), (1, 5)]:
            self.assertIs(one[number(s)], one.cells[index])

    def test_speeds(self):
        one = curve(program("part dig", "part haul", "task one 1; work 1 dig"), question(dig=(0, 2), haul=(3, 1)))
        self.assertEqual(one.speeds(number("1/4")), speeds(dig="1/2", haul="5/2"))
        self.assertEqual(one.speeds(Number(0)), speeds(dig=0, haul=3))
        self.assertEqual(one.speeds(s=Number(1)), speeds(dig=2, haul=1))
        self.assertEqual([type(one.speeds(Number(0))), type(one.speeds(Number(0))[0])], [tuple, tuple])

    def test_no_speed(self):
        one, none = self.door(), curve(program(*DOOR), ())
        for value in no_speeds():
            with self.subTest(value=value):
                self.refuses(NoSpeed, value, one, value)
                self.refuses(NoSpeed, value, one.__getitem__, value)
                self.refuses(NoSpeed, value, one.speeds, value)
                self.refuses(NoSpeed, value, none.speeds, value)
                with self.assertRaises(NoSpeed):
                    one[value]

    def test_borders(self):
        found = self.door().borders()
        self.assertTrue(inspect.isgenerator(found))
        self.assertEqual([amount(s) for s in found], ["0", "1/4", "5/8", "1"])
        for rows, pairs, ends in [
            (RACE, {"dig": (0, 1)}, ["0", "1"]), (RACE, {"dig": (1, 2)}, ["0", "1"]),
            (RACE, {"dig": (2, 2)}, ["0", "1"]), (RACE, {"dig": (0, 2)}, ["0", "1/2", "1"]),
            (DOOR, {"fetch": (2, 0)}, ["0", "3/8", "3/4", "1"]),
        ]:
            self.assertEqual([amount(s) for s in curve(program(*rows), question(**pairs)).borders()], ends)

    def test_equal_calls_give_equal_results(self):
        self.assertEqual(self.door().rows(), self.door().rows())


class ChangesTest(CurveCase):

    def changes(self, rows, **pairs):
        one = curve(program(*rows), question(**pairs))
        return [(amount(s), *rest, amount(jump)) for s, *rest, jump in one.changes()]

    def test_generator(self):
        one = curve(program(*DOOR), question(fetch=(0, 2)))
        found = one.changes()
        self.assertTrue(inspect.isgenerator(found))
        first = next(found)
        self.assertIs(type(first), tuple)
        self.assertEqual([type(value) for value in first], [Number, int, tuple, tuple, Number])
        self.assertEqual(len(list(one.changes())), len(one) - 1)

    def test_one_cell(self):
        self.assertEqual(self.changes(DOOR, fetch=(1, 1)), [])

    def test_places_and_events(self):
        found = self.changes(DOOR, fetch=(0, 2))
        self.assertEqual([row[:2] + row[4:] for row in found], [
            ("0", 0, "0"), ("1/4", 2, "0"), ("1/4", 2, "0"), ("5/8", 1, "0"), ("5/8", 1, "0"),
        ])
        self.assertEqual(found[3][2:4], (
            (("over", "low", 5), ("step", "low", 6), ("step", "low", 7)),
            (("wake", "high", 10), ("over", "low", 5), ("stop", "low", 0), ("run", "high", 0), ("step", "high", 11),
             ("step", "high", 12)),
        ))

    def test_each_row(self):
        for rows, pairs in [(DOOR, {"fetch": (0, 2)}), (TURNS, {"dig": (0, 2)}), (MANY, {"dig": ("1/3", "1/2")})]:
            one = curve(program(*rows), question(**pairs))
            for at, (s, place, events, others_, jump) in enumerate(one.changes()):
                low, high = one.cells[at], one.cells[at + 1]
                self.assertEqual([s, s], [low.stretch.high, high.stretch.low])
                stories = [[told for _, told in cell.moments] for cell in (low, high)]
                self.assertEqual(stories[0][:place], stories[1][:place])
                self.assertNotEqual(events, others_)
                self.assertEqual([events, others_], [
                    story[place] if place < len(story) else None for story in stories
                ])
                early, late = low.time, high.time
                self.assertEqual(jump, late(s) - early(s))

    def test_jump(self):
        self.assertEqual([(row[0], row[4]) for row in self.changes(GATE, fetch=(0, 2))], [
            ("0", "0"), ("5/8", "-30"), ("5/8", "0"), ("7/8", "0"), ("7/8", "0"),
        ])
        self.assertEqual([(row[0], row[4]) for row in self.changes(GATE, fetch=(2, 0))], [
            ("1/8", "0"), ("1/8", "0"), ("3/8", "0"), ("3/8", "30"), ("1", "0"),
        ])

    def test_story_that_has_ended(self):
        # Behind the work of 200 statements the loss of a core is refused: at 4, if one has had it since 1, else later.
        rows = [
            "slice 3", "part dig", "task two 2; start zero; sleep 4",
            "task one 2; wait zero; repeat 49; say 1; end; repeat 45; say 1; end",
            "say 1; say 2; say 3; say 4; say 5; work 50", "task zero 1 later; work 1 dig",
        ]
        self.curves(rows, ["[0 1/2] long 4", "(1/2 1] long 7/2+1s"], dig=("1/2", "3/2"))
        self.assertEqual(self.changes(rows, dig=("1/2", "3/2")), [("1/2", 3, None, (), "0")])
        self.curves(rows, ["[0 1/2) long 9/2-1s", "[1/2 1] long 4"], dig=("3/2", "1/2"))
        self.assertEqual(self.changes(rows, dig=("3/2", "1/2")), [("1/2", 3, (), None, "0")])

    def test_story_that_ends_in_a_fault(self):
        rows = ["cores 2", "lock a", "part dig", "task one 1; work 1 dig; unlock a", "task two 1; sleep 1; sleep 1"]
        self.assertEqual([row[:2] for row in self.changes(rows, dig=(0, 2))], [
            ("0", 0), ("1/2", 1), ("1/2", 1), ("1", 2),
        ])


class TooManyTest(CurveCase):

    def test_300_cells_are_let(self):
        # Each meeting is a cell, and so is each stretch between; s = 0 is one, too.
        goal = (MEETINGS[148] + MEETINGS[149]) / 2
        one = curve(program(*MANY), question(dig=(0, goal)))
        self.assertEqual(len(one), 300)
        self.assertEqual([amount(s) for s in one.borders()][1:-1], [str(s / goal) for s in MEETINGS[:149]])
        self.assertIs(shows_curve(one.program, one.question, one.rows()), True)

    def test_301_cells(self):
        for goal in (MEETINGS[149], MEETINGS[200], 9):
            for call in (curve, lambda *given: shows_curve(*given, ())):
                with self.assertRaises(TooMany) as caught:
                    call(program(*MANY), question(dig=(0, goal)))
                self.assertIs(type(caught.exception), TooMany)

    def test_the_other_way_round(self):
        goal = (MEETINGS[148] + MEETINGS[149]) / 2
        self.assertEqual(len(curve(program(*MANY), question(dig=(goal, 0)))), 300)
        with self.assertRaises(TooMany):
            curve(program(*MANY), question(dig=(MEETINGS[149], 0)))


class RowsTest(CurveCase):

    def test_rows(self):
        one = curve(program(*RACE), question(dig=(0, 2)))
        runs = (("run", "one", 0), ("run", "two", 1), ("step", "one", 4))
        self.assertEqual(one.rows(), (
            ((0, 1), True, (0, 1), True, (2, 1), (0, 1), "done", (
                (*runs, ("end", "one", 3), ("step", "two", 6)), (("over", "two", 6), ("end", "two", 5)),
            )),
            ((0, 1), False, (1, 2), False, (2, 1), (0, 1), "done", (
                (*runs, ("step", "two", 6)), (("over", "one", 4), ("end", "one", 3)),
                (("over", "two", 6), ("end", "two", 5)),
            )),
            ((1, 2), True, (1, 2), True, (2, 1), (0, 1), "done", (
                (*runs, ("step", "two", 6)),
                (("over", "one", 4), ("over", "two", 6), ("end", "one", 3), ("end", "two", 5)),
            )),
            ((1, 2), False, (1, 1), True, (0, 1), (4, 1), "done", (
                (*runs, ("step", "two", 6)), (("over", "two", 6), ("end", "two", 5)),
                (("over", "one", 4), ("end", "one", 3)),
            )),
        ))

    def test_shows_curve(self):
        one = curve(program(*DOOR), question(fetch=(0, 2)))
        rows = one.rows()
        self.assertIs(shows_curve(one.program, one.question, rows), True)
        self.assertIs(shows_curve(one.program, question(fetch=(0, 1)), rows), False)
        self.assertIs(shows_curve(program("part fetch", "task one 1; say 1"), one.question, rows), False)
        for at in range(6):
            self.assertIs(shows_curve(one.program, one.question, rows[:at]), False)
            self.assertIs(shows_curve(one.program, one.question, rows[:at] + rows[at + 1:]), False)
            self.assertIs(shows_curve(one.program, one.question, (*rows[:at], rows[at], *rows[at:])), False)
        self.assertIs(shows_curve(one.program, one.question, rows[::-1]), False)

    def test_other_rows(self):
        one = curve(program(*RACE), question(dig=(0, 2)))
        values = list(changed(one.rows()))
        self.assertGreater(len(values), 500)
        for value in values[::7]:
            self.assertIs(shows_curve(one.program, one.question, value), False, value)

    def test_shows_cell(self):
        for rows, pairs in [(DOOR, {"fetch": (0, 2)}), (TURNS, {"dig": (2, 0)}), (RACE, {}), (RACE, {"dig": (1, 2)})]:
            one = curve(program(*rows), question(**pairs))
            for row in one.rows():
                self.assertIs(shows_cell(one.program, one.question, row), True, row)
            self.assertIs(shows_cell(one.program, one.question, one.rows()), False)

    def test_other_cells(self):
        one = curve(program(*RACE), question(dig=(0, 2)))
        for row in one.rows():
            for value in changed(row):
                self.assertIs(shows_cell(one.program, one.question, value), False, value)

    def test_cells_that_are_cut_or_joined(self):
        one = curve(program(*DOOR), question(fetch=(0, 2)))
        rows = one.rows()
        cut = [
            (low, has_low, high, has_high)
            for low, high in [((1, 4), (1, 2)), ((1, 3), (5, 8)), ((1, 3), (1, 2)), ((1, 2), (1, 2)), ((1, 4), (1, 1))]
            for has_low in (False, True) for has_high in (False, True)
        ]
        for ends in cut:
            value = (*ends, *rows[3][4:])
            self.assertIs(shows_cell(one.program, one.question, value), False, ends)
            self.assertIs(shows_curve(one.program, one.question, (*rows[:3], value, *rows[4:])), False, ends)
        joined = ((0, 1), True, (1, 4), True, *rows[1][4:])
        self.assertIs(shows_cell(one.program, one.question, joined), False)
        self.assertIs(shows_curve(one.program, one.question, (joined, *rows[3:])), False)

    def test_ends_that_are_none(self):
        one = program(*DOOR)
        rest = curve(one, ()).rows()[0][4:]
        self.assertIs(shows_cell(one, (), ((0, 1), True, (1, 1), True, *rest)), True)
        for low, high in [
            ((1, 1), (0, 1)), ((-1, 1), (1, 1)), ((-2, 1), (-1, 1)), ((-1, 1), (0, 1)), ((-1, 1), (-1, 1)),
            ((2, 1), (3, 1)), ((0, 1), (2, 1)), ((0, 1), (10 ** 40, 1)), ((0, 0), (1, 1)),
            ((0, 1), (1, 0)), ((0, -1), (1, 1)), ((0, 2), (1, 1)), ((0, 1), (2, 2)), ((0, 1), (-1, -1)),
            ((0,), (1, 1)), ((0, 1), (1, 1, 1)), (0, 1), ("0", "1"), (Number(0), Number(1)), (None, None),
            ([0, 1], [1, 1]), ((0, 1), True), ((False, 1), (1, 1)), ((0, 1), (True, 1)), ((0, True), (1, True)),
        ]:
            self.assertIs(shows_cell(one, (), (low, True, high, True, *rest)), False, (low, high))
        self.assertIs(shows_cell(one, (), ((0, 1), 1, (1, 1), 1, *rest)), False)

    def test_values_of_every_kind(self):
        one, asked = program(*RACE), question(dig=(0, 2))
        for value in any_values() + [curve(one, asked), curve(one, asked).cells, curve(one, asked).cells[0], (1,) * 8]:
            with self.subTest(value=value):
                self.assertIs(shows_curve(one, asked, value), False)
                self.assertIs(shows_cell(one, asked, value), False)

    def test_shows_cell_among_too_many(self):
        one = program(*MANY)
        asked = question(dig=(0, 9))
        low, high = Fraction(1, 2), min(s for s in MEETINGS if s > Fraction(1, 2))
        plain = run(one, speeds(dig=(low + high) / 2))
        # two ends at 20, and one earlier.
        row = (
            ((low / 9).numerator, (low / 9).denominator), False, ((high / 9).numerator, (high / 9).denominator), False,
            (20, 1), (0, 1), "done", tuple(events for _, events in plain.moments),
        )
        self.assertIs(shows_cell(one, asked, row), True)
        for at in (1, 3):
            self.assertIs(shows_cell(one, asked, (*row[:at], True, *row[at + 1:])), False)
        self.assertIs(shows_cell(one, asked, (*row[:4], (21, 1), *row[5:])), False)
        self.assertIs(shows_cell(one, asked, (*row[:7], row[7][:-1])), False)
        plain = run(one, speeds(dig=Fraction(7, 3)))
        row = ((7, 27), True, (7, 27), True, (140, 3), (0, 1), "done", tuple(events for _, events in plain.moments))
        self.assertIs(shows_cell(one, asked, row), True)
        self.assertIs(shows_cell(one, asked, (*row[:2], (8, 27), *row[3:])), False)

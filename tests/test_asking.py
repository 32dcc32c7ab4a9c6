"""Section 9: reaches, where, least, greatest, falls, unlike and slower."""

from tests.helpers import any_values
from tests.telling import (
    DOOR, GATE, CurveCase, amount, fraction, number, pieces_of, program, question, shown, shown_all,
)
from whatspeed.asking import falls, greatest, least, reaches, slower, unlike, where
from whatspeed.curves import curve
from whatspeed.exact import Number, Stretch

# One cell for dig from 1 to 2: 7 + 4 s.
PLAIN = ["part dig", "task one 1; work 4 dig; work 3"]
VALLEY = ["cores 2", "part dig", "part haul", "task one 1; work 6 dig", "task two 1; work 6 haul"]
# At 1/2, where dig is 1, two takes its step between those of one and tri.
DIP = [
    "cores 3", "cell a 0", "cell b 0", "part dig", "task one 1; work 2 dig; a = 1",
    "task two 1; work 2; if a = b; work 9; end", "task tri 1; work 2 dig; b = 1",
]
PEAK = [*DIP[:5], "task two 1; work 2; if a - b; work 9; end", DIP[6]]
# one is late below 1/2, where its work ends behind 4.
CLIFF = [
    "cores 2", "cell heap 0", "part dig", "task one 1; work 4 dig; if heap = 0; work 20; end",
    "task two 1; sleep 4; heap = 1",
]
TRAP = [
    "cores 2", "cell heap 0", "part dig", "task one 1; work 2 dig; if heap; wait one; end",
    "task two 1; sleep 1; heap = 1",
]
NEVER = ["part dig", "task one 1; work 3 dig; wait one"]
TELLER = ["cores 2", "part dig", "task one 1; work 2 dig; say 1", "task two 1; work 2; say 2"]


def asked(rows, **pairs):
    return curve(program(*rows), question(**pairs))


class CurvesTest(CurveCase):
    """The curves that the tests below ask about."""

    def test_curves(self):
        self.curves(PLAIN, ["[0 1] done 7+4s"], dig=(1, 2))
        self.curves(GATE, [
            "[0 0] done 72", "(0 5/8) done 72+8s", "[5/8 5/8] done 47", "(5/8 7/8) done 47", "[7/8 7/8] done 47",
            "(7/8 1] done 47",
        ], fetch=(0, 2))
        self.curves(VALLEY, [
            "[0 0] done 12", "(0 1/2) done 12-12s", "[1/2 1/2] done 6", "(1/2 1) done 0+12s", "[1 1] done 12",
        ], dig=(0, 2), haul=(2, 0))
        self.curves(DIP, ["[0 0] done 11", "(0 1/2) done 11", "[1/2 1/2] done 2", "(1/2 1] done 11"], dig=(0, 2))
        self.curves(PEAK, ["[0 0] done 2", "(0 1/2) done 2", "[1/2 1/2] done 11", "(1/2 1] done 0+4s"], dig=(0, 2))
        self.curves(CLIFF, [
            "[0 1/2) done 8-8s", "[1/2 1/2] done 24", "(1/2 1) done 28-8s", "[1 1] done 20",
        ], dig=(2, 0))
        self.curves(TRAP, ["[0 0] done 1", "(0 1/2) done 1", "[1/2 1/2] done 1", "(1/2 1] stuck 0+2s"], dig=(0, 1))
        self.curves(NEVER, ["[0 1] stuck 3+3s"], dig=(1, 2))


class ReachesTest(CurveCase):

    def reached(self, limits, rows, **pairs):
        """Checks what is reached for several limits."""
        one = asked(rows, **pairs)
        for limit, told in limits:
            self.assertEqual(shown_all(reaches(one, number(limit))), told, limit)

    def test_rising(self):
        self.reached([
            ("13/2", ""), (7, "[0 0]"), (8, "[0 1/4]"), ("17/2", "[0 3/8]"), (11, "[0 1]"), (99, "[0 1]"), (0, ""),
            (-1, ""), (10 ** 30, "[0 1]"),
        ], PLAIN, dig=(1, 2))

    def test_falling(self):
        self.reached([("13/2", ""), (7, "[1 1]"), (8, "[3/4 1]"), (10, "[1/4 1]"), (11, "[0 1]"), (99, "[0 1]")],
                     PLAIN, dig=(2, 1))

    def test_flat(self):
        self.reached([("69/10", ""), (7, "[0 1]"), ("71/10", "[0 1]")], PLAIN, dig=(1, 1))

    def test_joined_over_cells(self):
        self.reached([(7, "[0 1/4]"), (9, "[0 1/2]"), (10, "[0 5/8]"), (11, "[0 3/4]"), (13, "[0 1]")],
                     DOOR, fetch=(0, 2))
        self.reached([(50, "[5/8 1]"), (47, "[5/8 1]"), (46, ""), (72, "[0 0] [5/8 1]"), (74, "[0 1/4] [5/8 1]"),
                      (77, "[0 1]"), ("769/10", "[0 49/80] [5/8 1]")], GATE, fetch=(0, 2))

    def test_in_the_midst(self):
        self.reached([(6, "[1/2 1/2]"), (9, "[1/4 3/4]"), (12, "[0 1]"), (5, "")], VALLEY, dig=(0, 2), haul=(2, 0))

    def test_at_one_place_alone(self):
        self.reached([(1, ""), (2, "[1/2 1/2]"), (10, "[1/2 1/2]"), (11, "[0 1]")], DIP, dig=(0, 2))

    def test_everywhere_but_at_one_place(self):
        self.reached([(3, "[0 1/2) (1/2 3/4]"), (4, "[0 1/2) (1/2 1]"), (2, "[0 1/2)"), (11, "[0 1]")],
                     PEAK, dig=(0, 2))

    def test_ends_that_are_not_included(self):
        self.reached([(4, ""), (5, "[3/8 1/2)"), (8, "[0 1/2)"), (20, "[0 1/2) [1 1]"), (24, "[0 1]"),
                      (22, "[0 1/2) [3/4 1]")], CLIFF, dig=(2, 0))

    def test_only_what_is_done(self):
        self.reached([(1, "[0 1/2]"), (99, "[0 1/2]"), ("9/10", "")], TRAP, dig=(0, 1))
        self.reached([(99, "")], NEVER, dig=(1, 2))

    def test_kinds_of_values(self):
        found = reaches(curve=asked(PLAIN, dig=(1, 2)), limit=number(8))
        self.assertEqual([type(found), type(found[0])], [tuple, Stretch])
        self.assertEqual(reaches(asked(PLAIN, dig=(1, 2)), number(1)), ())


class WhereTest(CurveCase):

    def test_joined(self):
        one = asked(DOOR, fetch=(0, 2))
        for chosen, told in [
            ((), ""), ((0,), "[0 0]"), ((1,), "(0 1/4)"), ((0, 1), "[0 1/4)"), ((0, 2), "[0 0] [1/4 1/4]"),
            ((1, 2), "(0 1/4]"), ((1, 3), "(0 1/4) (1/4 5/8)"), ((3, 5), "(1/4 5/8) (5/8 1]"),
            ((2, 3, 4), "[1/4 5/8]"), ((3, 4, 5), "(1/4 1]"), (range(6), "[0 1]"), ((0, 1, 3, 4), "[0 1/4) (1/4 5/8]"),
        ]:
            cells = [one.cells[at] for at in chosen]
            self.assertEqual(shown_all(where(one, lambda cell: cell in cells)), told)

    def test_called_once_with_each_cell_in_sequence(self):
        one = asked(DOOR, fetch=(0, 2))
        for value in (True, False, None, 0):
            seen = []
            where(one, lambda cell: seen.append(cell) or value)
            self.assertEqual(len(seen), 6)
            for given, cell in zip(seen, one.cells):
                self.assertIs(given, cell)

    def test_values_of_every_kind(self):
        one = asked(DOOR, fetch=(0, 2))
        for value in any_values():
            with self.subTest(value=value):
                self.assertEqual(shown_all(where(one, lambda cell: value)), "[0 1]" if value else "")

    def test_values_of_every_kind_in_turn(self):
        one = asked(DOOR, fetch=(0, 2))
        answers = iter([[], "a", Number(0), Number(1), {}, (0,)])
        self.assertEqual(shown_all(where(one, lambda cell: next(answers))), "(0 1/4) (1/4 5/8) (5/8 1]")

    def test_what_cells_tell(self):
        one = asked(GATE, fetch=(0, 2))
        self.assertEqual(shown_all(where(curve=one, test=lambda cell: cell.time.slope == Number(8))), "(0 5/8)")
        self.assertEqual(shown_all(where(one, lambda cell: cell.outcome == "stuck")), "")


class BoundsTest(CurveCase):

    def bounds(self, rows, low, high, **pairs):
        """Checks least and greatest, each written as (time, stretch or None)."""
        one = asked(rows, **pairs)
        for found, told in [(least(one), low), (greatest(one), high)]:
            self.assertEqual([type(found), type(found[0])], [tuple, Number])
            self.assertEqual((amount(found[0]), shown(found[1])), told)

    def test_rising_falling_flat(self):
        self.bounds(PLAIN, ("7", "[0 0]"), ("11", "[1 1]"), dig=(1, 2))
        self.bounds(PLAIN, ("7", "[1 1]"), ("11", "[0 0]"), dig=(2, 1))
        self.bounds(PLAIN, ("7", "[0 1]"), ("7", "[0 1]"), dig=(1, 1))

    def test_joined_over_cells(self):
        self.bounds(DOOR, ("7", "[0 1/4]"), ("13", "[1 1]"), fetch=(0, 2))
        self.bounds(DOOR, ("7", "[3/4 1]"), ("13", "[0 0]"), fetch=(2, 0))

    def test_the_first_one_of_several(self):
        self.bounds(VALLEY, ("6", "[1/2 1/2]"), ("12", "[0 0]"), dig=(0, 2), haul=(2, 0))
        self.bounds(DIP, ("2", "[1/2 1/2]"), ("11", "[0 1/2)"), dig=(0, 2))
        self.bounds(PEAK, ("2", "[0 1/2)"), ("11", "[1/2 1/2]"), dig=(0, 2))

    def test_met_nowhere(self):
        self.bounds(GATE, ("47", "[5/8 1]"), ("77", None), fetch=(0, 2))
        self.bounds(GATE, ("47", "[0 3/8]"), ("77", None), fetch=(2, 0))
        self.bounds(CLIFF, ("4", None), ("24", "[1/2 1/2]"), dig=(2, 0))

    def test_only_what_is_done(self):
        self.bounds(TRAP, ("1", "[0 1/2]"), ("1", "[0 1/2]"), dig=(0, 1))
        self.bounds(TRAP, ("1", "[1/2 1]"), ("1", "[1/2 1]"), dig=(1, 0))

    def test_nothing_is_done(self):
        one = asked(NEVER, dig=(1, 2))
        self.assertIs(least(one), None)
        self.assertIs(greatest(curve=one), None)

    def test_by_name(self):
        self.assertEqual(amount(least(curve=asked(PLAIN, dig=(1, 2)))[0]), "7")


class FallsTest(CurveCase):

    def fallen(self, rows, **pairs):
        """Checks the pair of falls by two runs."""
        one = asked(rows, **pairs)
        found = falls(one)
        self.assertEqual([type(found), len(found)], [tuple, 2])
        s, t = found
        self.assertEqual([type(s), type(t)], [Number, Number])
        self.assertTrue(0 <= fraction(s) < fraction(t) <= 1)
        times = [fraction(one[at].run(at).time) for at in (s, t)]
        self.assertGreater(*times)

    def test_nowhere(self):
        for rows, pairs in [
            (PLAIN, {"dig": (1, 2)}), (PLAIN, {"dig": (1, 1)}), (PLAIN, {}), (DOOR, {"fetch": (0, 2)}),
            (TRAP, {"dig": (0, 1)}),
            (GATE, {"fetch": ("1/2", 1)}), (GATE, {"fetch": (0, "6/5")}),
        ]:
            self.assertIs(falls(asked(rows, **pairs)), None)

    def test_within_a_cell(self):
        self.fallen(PLAIN, dig=(2, 1))
        self.fallen(DOOR, fetch=(2, 0))
        self.fallen(VALLEY, dig=(0, 2), haul=(2, 0))
        self.fallen(CLIFF, dig=(2, 0))
        self.fallen(VALLEY, dig=(9, 8), haul=(0, 0))

    def test_over_a_jump(self):
        self.fallen(GATE, fetch=(0, 2))
        self.fallen(GATE, fetch=("6/5", "13/10"))
        self.fallen(DIP, dig=(0, 2))
        self.fallen(PEAK, dig=(0, 2))

    def test_over_a_jump_with_ends_that_are_not_included(self):
        # The time rises by 5 ahead of the jump, which is one of 30, whatever the work of high is.
        for work in (40, 60, 69):
            rows = [*GATE[:-1], f"task high 2; sleep 5; lock door; work 2; unlock door; work {work}"]
            self.fallen(rows, fetch=(0, 2))

    def test_a_jump_that_is_less_than_the_rise(self):
        # From 12 to 16 up to 1/2, then from 15 on; the rows of the two tasks tell on which side 1/2 is.
        head = ["cores 2", "cell heap 0", "part dig"]
        one = "task one 1; work 4 dig; heap = 1"
        two = "task two 1; sleep 4; x = heap; sleep 5; if x; sleep 1; end; work 4 dig; sleep 2"
        for tasks, time in [([one, two], 16), ([two, one], 15)]:
            self.curves([*head, *tasks], [
                "[0 0] done 12", "(0 1/2) done 12+8s", f"[1/2 1/2] done {time}", "(1/2 1] done 11+8s",
            ], dig=(0, 2))
            self.fallen([*head, *tasks], dig=(0, 2))

    def test_a_rise_from_where_it_was(self):
        rows = ["cores 2", "part dig", "task one 1; work 4 dig", "task two 1; work 2; work 2"]
        self.curves(rows, [
            "[0 0] done 4", "(0 1/4) done 4", "[1/4 1/4] done 4", "(1/4 1/2) done 4", "[1/2 1/2] done 4",
            "(1/2 1] done 0+8s",
        ], dig=(0, 2))
        self.assertIs(falls(asked(rows, dig=(0, 2))), None)

    def test_all_outcomes_count(self):
        self.fallen(NEVER, dig=(2, 1))
        self.fallen(TRAP, dig=(1, 0))

    def test_by_name(self):
        self.assertIs(falls(curve=asked(PLAIN, dig=(1, 2))), None)


class UnlikeTest(CurveCase):

    def differ(self, one, other, told):
        self.assertEqual(shown_all(unlike(one, other)), told)
        self.assertEqual(shown_all(unlike(other, one)), told)

    def test_alike(self):
        self.differ(asked(TELLER, dig=(0, 2)), asked(TELLER, dig=(0, 2)), "")
        self.differ(asked(PLAIN, dig=(1, 2)), asked(VALLEY, dig=(0, 2), haul=(2, 0)), "")

    def test_times_do_not_count(self):
        one = asked(["part dig", "task one 1; work 2 dig; say 1"], dig=(0, 1))
        self.differ(one, asked(["task one 2; sleep 5; say 1"]), "")

    def test_outcomes(self):
        self.differ(asked(TRAP, dig=(0, 1)), asked(PLAIN, dig=(1, 2)), "(1/2 1]")
        self.differ(asked(TRAP, dig=(0, 1)), asked(TRAP, dig=(1, 0)), "[0 1/2) (1/2 1]")
        self.differ(asked(TRAP, dig=(0, 1)), asked(NEVER, dig=(1, 2)), "[0 1/2]")
        self.differ(asked(NEVER, dig=(1, 2)), asked(["lock a", "task one 1; unlock a"]), "[0 1]")

    def test_sequence_of_outputs(self):
        # one is first up to 1/2.
        one = asked(TELLER, dig=(0, 2))
        self.differ(one, asked(["task one 1; say 1", "task two 1; say 2"]), "(1/2 1]")
        self.differ(one, asked(["task two 1; say 2", "task one 1; say 1"]), "[0 1/2]")
        self.differ(one, asked(TELLER, dig=(2, 0)), "[0 1/2) (1/2 1]")
        self.differ(one, asked(TELLER, dig=(0, 4)), "(1/4 1/2]")

    def test_tasks_and_values(self):
        one = asked(["task one 1; say 1"])
        self.differ(one, asked(["task two 1; say 1"]), "[0 1]")
        self.differ(one, asked(["task one 1; say 2"]), "[0 1]")
        self.differ(one, asked(["task one 1; say 1; say 1"]), "[0 1]")
        self.differ(one, asked(["task one 1; work 1"]), "[0 1]")

    def test_at_all_but_one_place(self):
        rows = [*DIP[:5], "task two 1; work 2; if a = b; say 1; end", DIP[6]]
        self.differ(asked(rows, dig=(0, 2)), asked(["task two 1; work 1"]), "[0 1/2) (1/2 1]")
        self.differ(asked(rows, dig=(0, 2)), asked(["task two 1; say 1"]), "[1/2 1/2]")

    def test_many_cells(self):
        # The borders of both: 1/2, and 1/4, 1/2, 3/4.
        rows = ["cores 2", "part dig", "task one 1; work 4 dig; say 1", "task two 1; repeat 3; work 1; say 2; end"]
        one, other = asked(TELLER, dig=(0, 2)), asked(rows, dig=(0, 1))
        self.assertGreater(len(other), 6)
        self.differ(one, other, "[0 1]")
        self.differ(other, asked(rows, dig=(1, 1)), "[0 3/4]")
        self.differ(other, asked(rows, dig=("1/2", "1/2")), "[0 1/4] (1/2 1]")

    def test_by_name(self):
        self.assertEqual(unlike(other=asked(PLAIN), one=asked(PLAIN)), ())


class SlowerTest(CurveCase):

    def test_lines_that_meet(self):
        one, other = asked(PLAIN, dig=(1, 2)), asked(["task one 1; sleep 9"])
        self.assertEqual(shown_all(slower(one, other)), "[0 1/2)")
        self.assertEqual(shown_all(slower(other, one)), "(1/2 1]")
        self.assertEqual(shown_all(slower(one=other, other=one)), "(1/2 1]")

    def test_equal_times(self):
        one = asked(PLAIN, dig=(1, 2))
        self.assertEqual(slower(one, asked(PLAIN, dig=(1, 2))), ())
        self.assertEqual(slower(one, asked(["part haul", "task two 3; work 7; work 4 haul"], haul=(0, 1))), ())

    def test_meeting_at_an_end(self):
        one = asked(PLAIN, dig=(1, 2))
        self.assertEqual([shown_all(slower(one, asked([f"task one 1; work {work}"]))) for work in (6, 7, 8, 11, 12)],
                         ["", "", "[0 1/4)", "[0 1)", "[0 1]"])
        self.assertEqual([shown_all(slower(asked([f"task one 1; work {work}"]), one)) for work in (6, 7, 8, 11, 12)],
                         ["[0 1]", "(0 1]", "(1/4 1]", "", ""])

    def test_joined_over_cells(self):
        one, other = asked(GATE, fetch=(0, 2)), asked(["task one 1; work 74"])
        self.assertEqual(shown_all(slower(one, other)), "[0 1/4) [5/8 1]")
        self.assertEqual(shown_all(slower(other, one)), "(1/4 5/8)")
        dip = asked(DIP, dig=(0, 2))
        self.assertEqual(shown_all(slower(asked(["task one 1; work 5"]), dip)), "[0 1/2) (1/2 1]")
        self.assertEqual(shown_all(slower(dip, asked(["task one 1; work 5"]))), "[1/2 1/2]")

    def test_only_where_both_are_done(self):
        trap, plain, never = asked(TRAP, dig=(0, 1)), asked(PLAIN, dig=(1, 2)), asked(NEVER, dig=(1, 2))
        self.assertEqual([shown_all(slower(trap, plain)), slower(plain, trap)], ["[0 1/2]", ()])
        self.assertEqual([slower(never, plain), slower(plain, never)], [(), ()])
        self.assertEqual(slower(asked(["task one 1; work 1"]), never), ())

    def test_other_questions(self):
        one, other = asked(VALLEY, dig=(0, 2), haul=(2, 0)), asked(CLIFF, dig=(2, 0))
        # 12 - 12 s against 8 - 8 s, then 24, then 12 s against 28 - 8 s.
        self.assertEqual(shown_all(slower(one, other)), "[1/2 1]")
        self.assertEqual(shown_all(slower(other, one)), "[0 1/2)")

    def test_each_single_s_of_both(self):
        one, other = asked(DIP, dig=(0, 2)), asked(DIP, dig=(0, 4))
        self.assertEqual(pieces_of(other)[2], "[1/4 1/4] done 2")
        self.assertEqual([shown_all(slower(one, other)), shown_all(slower(other, one))], ["[1/2 1/2]", "[1/4 1/4]"])

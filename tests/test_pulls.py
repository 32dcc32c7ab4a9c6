"""Section 9: pulls. (BadSpeeds is looked at beside run, in test_speeds.)"""

from tests.telling import DOOR, GATE, MANY, CurveCase, amount, number, program, question, speeds
from whatspeed.asking import pulls
from whatspeed.curves import curve
from whatspeed.errors import TooMany
from whatspeed.exact import Number
from whatspeed.runs import run


def told(rows, **factors):
    """The pulls: PART (slope, gap) below and above, each as a text."""
    found = pulls(program(*rows), speeds(**factors))
    assert type(found) is tuple
    return [(part, *(side and " ".join(amount(value) for value in side) for side in sides)) for part, *sides in found]


class PullsTest(CurveCase):

    def test_of_the_example(self):
        self.assertEqual(told(DOOR), [("fetch", "4 0", "4 0")])

    def test_kinds_of_values(self):
        part, below, above = pulls(program(*DOOR), ())[0]
        self.assertEqual([type(part), type(below), type(above)], [str, tuple, tuple])
        self.assertEqual([type(value) for value in (*below, *above)], [Number] * 4)

    def test_at_0(self):
        self.assertEqual(told(DOOR, fetch=0), [("fetch", None, "0 0")])
        self.assertEqual(told(["part dig", "task one 1; work 4 dig; work 1"], dig=0), [("dig", None, "4 0")])

    def test_at_9(self):
        self.assertEqual(told(DOOR, fetch=9), [("fetch", "4 0", None)])

    def test_between(self):
        for factor, below, above in [
            ("1/4", "0 0", "0 0"), ("1/2", "0 0", "4 0"), ("3/4", "4 0", "4 0"), ("5/4", "4 0", "4 0"),
            (2, "4 0", "4 0"),
        ]:
            self.assertEqual(told(DOOR, fetch=factor), [("fetch", below, above)], factor)

    def test_slopes_that_differ(self):
        rows = ["cores 2", "part dig", "part haul", "task one 1; work 6 dig", "task two 1; work 4 haul"]
        self.assertEqual(told(rows, dig=2, haul=3), [("dig", "0 0", "6 0"), ("haul", "0 0", "4 0")])
        self.assertEqual(told(rows, dig=3, haul=3), [("dig", "6 0", "6 0"), ("haul", "0 0", "0 0")])

    def test_on_a_jump(self):
        # At 5/4 the time is 47; below it is 77 nearby, and grows.
        self.assertEqual(told(GATE, fetch="5/4"), [("fetch", "4 30", "0 0")])
        self.assertEqual(told(GATE, fetch="6/5"), [("fetch", "4 0", "4 0")])
        self.assertEqual(told(GATE, fetch="13/10"), [("fetch", "0 0", "0 0")])

    def test_on_a_jump_above(self):
        rows = [
            "cores 2", "cell heap 0", "part dig", "task one 1; work 2 dig; heap = 1",
            "task two 1; work 2; if heap; work 9; else; work 5; end",
        ]
        self.assertEqual(told(rows), [("dig", "0 0", "0 -4")])

    def test_on_a_single_place(self):
        rows = [
            "cores 3", "cell a 0", "cell b 0", "part dig", "task one 1; work 2 dig; a = 1",
            "task two 1; work 2; if a = b; work 9; end", "task tri 1; work 2 dig; b = 1",
        ]
        self.assertEqual(told(rows), [("dig", "0 9", "0 9")])

    def test_each_part_in_the_sequence_of_the_program(self):
        rows = ["part haul", "part idle", "part dig", "task one 1; work 1 dig; work 2 haul; work 3 dig"]
        self.assertEqual(told(rows), [("haul", "2 0", "2 0"), ("idle", "0 0", "0 0"), ("dig", "4 0", "4 0")])
        self.assertEqual(told(rows, haul=0, idle=9), [
            ("haul", None, "2 0"), ("idle", "0 0", None), ("dig", "4 0", "4 0"),
        ])

    def test_no_parts(self):
        self.assertEqual(pulls(program("task one 1; work 3"), ()), ())

    def test_other_parts_stay_as_they_are(self):
        rows = ["part dig", "part haul", "cell heap 0", "task one 1; work 4 dig; if heap; work 1 haul; end"]
        self.assertEqual(told(rows, dig="1/3", haul=5), [("dig", "4 0", "4 0"), ("haul", "0 0", "0 0")])
        rows = ["cores 2", "part dig", "part haul", "task one 1; work 4 dig", "task two 1; work 4 haul"]
        self.assertEqual(told(rows, dig="1/3", haul="1/2"), [("dig", "0 0", "0 0"), ("haul", "4 0", "4 0")])

    def test_all_outcomes_count(self):
        self.assertEqual(told(["part dig", "task one 1; work 4 dig; wait one"]), [("dig", "4 0", "4 0")])
        self.assertEqual(told(["lock a", "part dig", "task one 1; work 4 dig; unlock a"]), [("dig", "4 0", "4 0")])

    def test_never_too_many(self):
        with self.assertRaises(TooMany):
            curve(program(*MANY), question(dig=(0, 9)))
        self.assertEqual(told(MANY, dig="1/2"), [("dig", "0 0", "0 0")])
        self.assertEqual(told(MANY), [("dig", "0 0", "20 0")])
        self.assertEqual(told(MANY, dig="7/3"), [("dig", "20 0", "20 0")])

    def test_beside_runs(self):
        rows = ["slice 2", "part dig", "part haul", "task one 1; work 4 dig; work 2 haul"]
        rows.append("task two 1; work 3; work 1 dig")
        for dig in ("0", "1/2", "1", "3/2", "7/3", "9"):
            given = speeds(dig=dig, haul="2/3")
            time = run(program(*rows), given).time
            for part, below, above in pulls(program(*rows), given):
                factor = dict(given)[part]
                for side, found in ((-1, below), (1, above)):
                    if found is None:
                        continue
                    for much in ("1/1000000", "1/2000000"):
                        step = number(much) * number(side)
                        there = tuple((name, at + step if name == part else at) for name, at in given)
                        self.assertEqual(run(program(*rows), there).time, time + found[1] + found[0] * step)
                self.assertEqual(below is None, factor == Number(0))
                self.assertEqual(above is None, factor == Number(9))

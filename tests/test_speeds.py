"""Section 6: what speeds are, and BadSpeeds for all else."""

import copy

from tests.helpers import any_values
from tests.telling import RunCase, amount, number, program, question, speeds
from whatspeed.asking import pulls
from whatspeed.errors import BadSpeeds
from whatspeed.exact import Line, Number, Stretch
from whatspeed.runs import run, shows_run

ROWS = [
    "lock a", "queue pipe 1", "cell heap 1", "part dig", "part haul", "part idle",
    "task one 1; lock a; work 2 dig; work 3 haul; work 5; x = 1",
]
ONE = Number(1)


def wrong_speeds():
    """Values of every kind that are no speeds for this program."""
    rows = [
        [], [("dig", ONE)], {"dig": ONE}, "dig", (("dig", ONE), None), ("dig",), ("dig", ONE), (["dig", ONE],),
        ({"dig": ONE},), (None,), (ONE,), ("",), ((),), (("dig",),), (("dig", ONE, ONE),), ((ONE, "dig"),),
        (("dig", ONE), ("haul",)), ((("dig", ONE),),), ((("dig",), ONE),), (("dig", (ONE,)),), (("dig", [ONE]),),
        # No Numbers.
        (("dig", 1),), (("dig", 0),), (("dig", True),), (("dig", False),), (("dig", "1"),), (("dig", None),),
        (("dig", (1, 1)),), (("dig", {}),), (("dig", Line(ONE, ONE)),), (("dig", Stretch(ONE, ONE)),),
        (("dig", program("task one 1; say 1")),),
        # Numbers that are no factors.
        (("dig", number(-1)),), (("dig", number("-1/1000")),), (("dig", number(10)),), (("dig", number("9001/1000")),),
        (("dig", ONE), ("haul", number(-1))), (("dig", number(10)), ("haul", ONE)),
        # A part twice, or parts in the wrong sequence.
        (("dig", ONE), ("dig", ONE)), (("dig", ONE), ("dig", number(2))), (("haul", ONE), ("dig", ONE)),
        (("dig", ONE), ("haul", ONE), ("dig", ONE)), (("idle", ONE), ("haul", ONE)), (("haul", ONE), ("haul", ONE)),
        # Names of other kinds, and no names.
        (("one", ONE),), (("a", ONE),), (("pipe", ONE),), (("heap", ONE),), (("x", ONE),), (("none", ONE),),
        (("", ONE),), (("work", ONE),), (("Dig", ONE),), (("dig ", ONE),), ((1, ONE),), ((None, ONE),),
        ((True, ONE),), ((["dig"], ONE),), (({"dig": 1}, ONE),), (("dig", ONE), ("none", ONE)),
    ]
    return rows + [value for value in any_values() if value != ()] + [question(dig=(0, 1))]


class SpeedsTest(RunCase):

    def test_parts_with_factors(self):
        one = program(*ROWS)
        for given, time in [
            ((), "10"), (speeds(dig=1), "10"), (speeds(dig=0), "8"), (speeds(dig=9), "26"),
            (speeds(haul="1/2"), "17/2"), (speeds(dig=0, haul=0), "5"), (speeds(dig="9/2", haul="2/3"), "16"),
            (speeds(idle=7), "10"),
            (speeds(dig=2, haul=2, idle=2), "15"), (speeds(haul=9, idle=0), "34"),
        ]:
            self.assertEqual(amount(run(one, given).time), time)

    def test_left_out(self):
        one = program(*ROWS)
        self.assertEqual(run(one).rows(), run(one, ()).rows())
        self.assertEqual(run(program=one).rows(), run(one, speeds=()).rows())

    def test_by_position_and_by_name(self):
        one, given = program(*ROWS), speeds(dig=2)
        rows = run(one, given).rows()
        self.assertEqual(rows[0], (12, 1))
        self.assertEqual(run(one, speeds=given).rows(), rows)
        self.assertEqual(run(speeds=given, program=one).rows(), rows)
        self.assertIs(shows_run(value=rows, speeds=given, program=one), True)
        self.assertEqual(len(pulls(speeds=given, program=one)), 3)

    def test_whatever_is_none(self):
        one = program(*ROWS)
        for value in wrong_speeds():
            with self.subTest(value=value):
                self.refuses(BadSpeeds, value, run, one, value)
                self.refuses(BadSpeeds, value, run, one, speeds=value)
                self.refuses(BadSpeeds, value, shows_run, one, value, None)
                self.refuses(BadSpeeds, value, pulls, one, value)

    def test_parts_of_another_program(self):
        value = speeds(dig=1)
        self.refuses(BadSpeeds, value, run, program("part digs", "task one 1; work 1 digs"), value)
        self.refuses(BadSpeeds, value, run, program("task one 1; work 1"), value)

    def test_all_stays_as_it_was(self):
        for value in wrong_speeds():
            if not isinstance(value, (tuple, list, dict)):
                continue
            before = copy.deepcopy(value)
            with self.assertRaises(BadSpeeds):
                run(program(*ROWS), value)
            self.assertEqual(value, before)

"""Section 8: what questions are, and BadQuestion for all else."""

import copy

from tests.helpers import any_values
from tests.telling import CurveCase, number, pieces_of, program, question, speeds
from whatspeed.curves import curve, shows_cell, shows_curve
from whatspeed.errors import BadQuestion
from whatspeed.exact import Line, Number, Stretch

ROWS = [
    "lock a", "queue pipe 1", "cell heap 1", "part dig", "part haul", "part idle",
    "task one 1; lock a; work 2 dig; work 3 haul; work 5; x = 1",
]
ONE = Number(1)
TWO = Number(2)


def wrong_questions():
    """Values of every kind that are no questions for this program."""
    rows = [
        [], [("dig", ONE, TWO)], {"dig": (ONE, TWO)}, "dig", (("dig", ONE, TWO), None), ("dig", ONE, TWO), ("dig",),
        (["dig", ONE, TWO],), ({"dig": ONE},), (None,), (ONE,), ("",), ((),), (("dig",),), (("dig", ONE),),
        (("dig", ONE, TWO, TWO),), ((ONE, "dig", TWO),), ((ONE, TWO, "dig"),), (("dig", ONE, TWO), ("haul", ONE)),
        ((("dig", ONE, TWO),),), ((("dig",), ONE, TWO),), (("dig", (ONE, TWO)),), (("dig", (ONE,), TWO),),
        (("dig", ONE, [TWO]),),
        # No Numbers.
        (("dig", 1, TWO),), (("dig", ONE, 2),), (("dig", 0, 1),), (("dig", True, TWO),), (("dig", ONE, False),),
        (("dig", "1", TWO),), (("dig", ONE, None),), (("dig", ONE, (2, 1)),), (("dig", {}, TWO),),
        (("dig", ONE, Line(ONE, ONE)),), (("dig", Stretch(ONE, TWO), TWO),),
        # Numbers that are no factors.
        (("dig", number(-1), ONE),), (("dig", ONE, number("-1/1000")),), (("dig", number(10), ONE),),
        (("dig", ONE, number("9001/1000")),), (("dig", ONE, TWO), ("haul", ONE, number(10))),
        # A part twice, or parts in the wrong sequence.
        (("dig", ONE, TWO), ("dig", ONE, TWO)), (("dig", ONE, TWO), ("dig", TWO, ONE)),
        (("haul", ONE, TWO), ("dig", ONE, TWO)), (("dig", ONE, TWO), ("haul", ONE, TWO), ("dig", ONE, TWO)),
        (("idle", ONE, TWO), ("haul", ONE, TWO)),
        # Names of other kinds, and no names.
        (("one", ONE, TWO),), (("a", ONE, TWO),), (("pipe", ONE, TWO),), (("heap", ONE, TWO),), (("x", ONE, TWO),),
        (("none", ONE, TWO),), (("", ONE, TWO),), (("Dig", ONE, TWO),), ((1, ONE, TWO),), ((None, ONE, TWO),),
        ((["dig"], ONE, TWO),), (("dig", ONE, TWO), ("none", ONE, TWO)),
    ]
    return rows + [value for value in any_values() if value != ()] + [speeds(dig=1)]


class QuestionsTest(CurveCase):

    def test_parts_with_starts_and_goals(self):
        self.curves(ROWS, ["[0 1] done 10+2s"], dig=(1, 2))
        self.curves(ROWS, ["[0 1] done 12-1s"], dig=(2, "3/2"))
        self.curves(ROWS, ["[0 1] done 10+4s"], dig=(1, 0.5), haul=(1, "8/3"))
        self.curves(ROWS, ["[0 0] done 5", "(0 1] done 5+45s"], dig=(0, 9), haul=(0, 9))

    def test_goals_below_their_starts(self):
        self.curves(ROWS, ["[0 1) done 26-18s", "[1 1] done 8"], dig=(9, 0))

    def test_start_and_goal_alike(self):
        self.curves(ROWS, ["[0 1] done 12"], dig=(2, 2))
        self.curves(ROWS, ["[0 1] done 8"], dig=(0, 0))
        self.curves(ROWS, ["[0 1] done 26"], dig=(9, 9))

    def test_nothing_depends_on_s(self):
        one = self.curves(ROWS, ["[0 1] done 10"])
        self.assertEqual([one.question, one.speeds(Number(1))], [(), ()])

    def test_parts_that_are_not_used(self):
        one = self.curves(ROWS, ["[0 1] done 10"], idle=(0, 9))
        self.assertEqual(one.question, question(idle=(0, 9)))
        self.curves(ROWS, ["[0 1] done 10+2s"], dig=(1, 2), idle=(9, 0))

    def test_by_position_and_by_name(self):
        one, asked = program(*ROWS), question(dig=(1, 2))
        cells = pieces_of(curve(one, asked))
        self.assertEqual(pieces_of(curve(question=asked, program=one)), cells)
        rows = curve(one, asked).rows()
        self.assertIs(shows_curve(value=rows, question=asked, program=one), True)
        self.assertIs(shows_cell(value=rows[0], question=asked, program=one), True)

    def test_whatever_is_none(self):
        one = program(*ROWS)
        for value in wrong_questions():
            with self.subTest(value=value):
                self.refuses(BadQuestion, value, curve, one, value)
                self.refuses(BadQuestion, value, curve, one, question=value)
                self.refuses(BadQuestion, value, shows_curve, one, value, ())
                self.refuses(BadQuestion, value, shows_cell, one, value, ())

    def test_parts_of_another_program(self):
        value = question(dig=(1, 2))
        self.refuses(BadQuestion, value, curve, program("part digs", "task one 1; work 1 digs"), value)
        self.refuses(BadQuestion, value, curve, program("task one 1; work 1"), value)

    def test_all_stays_as_it_was(self):
        for value in wrong_questions():
            if not isinstance(value, (tuple, list, dict)):
                continue
            before = copy.deepcopy(value)
            with self.assertRaises(BadQuestion):
                curve(program(*ROWS), value)
            self.assertEqual(value, before)

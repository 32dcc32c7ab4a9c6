"""Section 4: Line."""

import unittest
from fractions import Fraction

from tests.helpers import any_values
from whatspeed.exact import Line, Number

NUMBERS = [(0, 1), (1, 1), (-1, 1), (3, 2), (-2, 3), (7, 1), (10 ** 32 + 1, 10 ** 31)]
LINES = [(base, slope) for base in NUMBERS for slope in NUMBERS]


def pair(number):
    return number.top, number.bottom


def made(base, slope):
    return Line(Number(*base), Number(*slope))


def plain(fraction):
    return fraction.numerator, fraction.denominator


class LineTest(unittest.TestCase):

    def test_base_and_slope(self):
        line = Line(Number(2, 4), Number(-3))
        self.assertEqual([pair(line.base), pair(line.slope)], [(1, 2), (-3, 1)])
        self.assertIs(type(line.base), Number)
        self.assertIs(type(line.slope), Number)

    def test_arguments_by_name(self):
        line = Line(slope=Number(2), base=Number(1))
        self.assertEqual([pair(line.base), pair(line.slope)], [(1, 1), (2, 1)])
        self.assertEqual(pair(line(s=Number(3))), (7, 1))
        self.assertEqual(pair(line.meets(other=Line(Number(0), Number(1)))), (-1, 1))

    def test_values(self):
        for base, slope in LINES:
            for s in NUMBERS:
                with self.subTest(base=base, slope=slope, s=s):
                    found = made(base, slope)(Number(*s))
                    self.assertEqual(pair(found), plain(Fraction(*base) + Fraction(*slope) * Fraction(*s)))
                    self.assertIs(type(found), Number)

    def test_sums_and_differences(self):
        for base, slope in LINES:
            for other in LINES[::4]:
                one, two = made(base, slope), made(*other)
                bases, slopes = (Fraction(*base), Fraction(*other[0])), (Fraction(*slope), Fraction(*other[1]))
                both, rest = one + two, one - two
                self.assertEqual([type(both), type(rest)], [Line, Line])
                self.assertEqual([pair(both.base), pair(both.slope)], [plain(sum(bases)), plain(sum(slopes))])
                self.assertEqual(pair(rest.base), plain(bases[0] - bases[1]))
                self.assertEqual(pair(rest.slope), plain(slopes[0] - slopes[1]))

    def test_equal(self):
        for at, one in enumerate(LINES):
            for index, other in enumerate(LINES):
                self.assertIs(made(*one) == made(*other), at == index)
                self.assertIs(made(*one) != made(*other), at != index)
        self.assertTrue(Line(Number(2, 4), Number(3)) == Line(Number(1, 2), Number(6, 2)))

    def test_equal_to_no_other_value(self):
        for line in (Line(Number(0), Number(0)), Line(Number(1), Number(2)), Line(Number(1), Number(0))):
            for value in any_values():
                if not isinstance(value, Line):
                    with self.subTest(value=value):
                        self.assertIs(line == value, False)
                        self.assertIs(value == line, False)
                        self.assertIs(line != value, True)

    def test_meets(self):
        for base, slope in LINES:
            for other in LINES:
                one, two = made(base, slope), made(*other)
                found = one.meets(two)
                steep = Fraction(*slope) - Fraction(*other[1])
                with self.subTest(base=base, slope=slope, other=other):
                    if steep == 0:
                        self.assertIs(found, None)
                    else:
                        self.assertIs(type(found), Number)
                        self.assertEqual(pair(found), plain((Fraction(*other[0]) - Fraction(*base)) / steep))
                        self.assertTrue(one(found) == two(found))

    def test_meets_at_nought_below_and_beyond(self):
        line = Line(Number(1), Number(2))
        self.assertEqual(pair(line.meets(Line(Number(1), Number(0)))), (0, 1))
        self.assertEqual(pair(line.meets(Line(Number(0), Number(0)))), (-1, 2))
        self.assertEqual(pair(line.meets(Line(Number(9), Number(1)))), (8, 1))

    def test_parallel_and_equal_lines_do_not_meet(self):
        line = Line(Number(1), Number(2))
        self.assertIs(line.meets(Line(Number(2), Number(2))), None)
        self.assertIs(line.meets(Line(Number(1), Number(2))), None)
        self.assertIs(line.meets(line), None)

    def test_lines_stay_as_they_were(self):
        one, other, s = Line(Number(1, 2), Number(3)), Line(Number(-4), Number(5, 7)), Number(1, 3)
        results = [one + other, one - other, one(s), one.meets(other), one == other, one + one, one - one]
        self.assertEqual(len(results), 7)
        self.assertEqual([pair(one.base), pair(one.slope)], [(1, 2), (3, 1)])
        self.assertEqual([pair(other.base), pair(other.slope)], [(-4, 1), (5, 7)])
        self.assertEqual(pair(s), (1, 3))

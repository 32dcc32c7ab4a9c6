"""Section 4: Number."""

import unittest
from fractions import Fraction

from tests.helpers import any_values, others
from whatspeed.errors import BadNumber
from whatspeed.exact import Number

SMALL = [(top, bottom) for top in range(-6, 7) for bottom in range(-6, 7) if bottom]
BIG = [
    (10 ** 35 + 7, 3), (-(10 ** 31), 10 ** 33 + 1), (2 ** 120, 6 ** 50), (7 ** 45, -(7 ** 40)),
    (123456789012345678901234567890123, 987654321098765432109876543210987), (10 ** 120, 10 ** 119),
]
SOME = [(0, 1), (0, -5), (1, 1), (-1, 1), (2, 4), (-3, 2), (3, -2), (5, 7), (7, 5), (12, 18), (-5, -10), *BIG]


def pair(number):
    return number.top, number.bottom


def plain(fraction):
    return fraction.numerator, fraction.denominator


class NumberTest(unittest.TestCase):

    def refused(self, top, bottom, /, *args, **more):
        with self.assertRaises(BadNumber) as caught:
            Number(*args, **more)
        value = caught.exception.value
        self.assertIs(type(caught.exception), BadNumber)
        self.assertIs(type(value), tuple)
        self.assertEqual(len(value), 2)
        self.assertIs(value[0], top)
        self.assertIs(value[1], bottom)

    def test_lowest_terms(self):
        for top, bottom in SMALL + BIG:
            with self.subTest(top=top, bottom=bottom):
                self.assertEqual(pair(Number(top, bottom)), plain(Fraction(top, bottom)))

    def test_terms_are_integers(self):
        for number in (Number(6, -4), Number(0, -7), Number(10 ** 40, 10 ** 39)):
            self.assertIs(type(number.top), int)
            self.assertIs(type(number.bottom), int)

    def test_nought_has_the_bottom_one(self):
        for bottom in (1, -1, 5, -8, 10 ** 33):
            self.assertEqual(pair(Number(0, bottom)), (0, 1))

    def test_bottom_left_out_and_names(self):
        self.assertEqual(pair(Number(5)), (5, 1))
        self.assertEqual(pair(Number(-5)), (-5, 1))
        self.assertEqual(pair(Number(top=5)), (5, 1))
        self.assertEqual(pair(Number(4, bottom=6)), (2, 3))
        self.assertEqual(pair(Number(bottom=-6, top=4)), (-2, 3))

    def test_wrong_tops(self):
        for value in others() + [Number(1), Number(0)]:
            with self.subTest(value=value):
                self.refused(value, 1, value)
                self.refused(value, 2, value, 2)
                self.refused(value, 0, value, 0)
                self.refused(value, 1, top=value)

    def test_wrong_bottoms(self):
        for value in others() + [Number(1), Number(0)]:
            with self.subTest(value=value):
                self.refused(3, value, 3, value)
                self.refused(0, value, 0, bottom=value)
                self.refused(3, value, top=3, bottom=value)

    def test_both_wrong(self):
        for value in others() + [Number(1)]:
            self.refused(value, value, value, value)
            self.refused(value, True, value, True)
            self.refused(None, value, None, value)

    def test_a_bottom_of_nought(self):
        for top in (0, 1, -1, 5, 10 ** 40):
            self.refused(top, 0, top, 0)
            self.refused(top, 0, top=top, bottom=0)

    def test_values_stay_as_they_were(self):
        value = [1, {"a": [2]}]
        self.refused(value, 1, value)
        self.assertEqual(value, [1, {"a": [2]}])

    def test_sums_differences_products(self):
        for one in SMALL[::3] + SOME:
            for other in SMALL[::5] + SOME:
                left, right = Fraction(*one), Fraction(*other)
                with self.subTest(one=one, other=other):
                    self.assertEqual(pair(Number(*one) + Number(*other)), plain(left + right))
                    self.assertEqual(pair(Number(*one) - Number(*other)), plain(left - right))
                    self.assertEqual(pair(Number(*one) * Number(*other)), plain(left * right))
                    self.assertIs(type(Number(*one) + Number(*other)), Number)
                    self.assertIs(type(Number(*one) - Number(*other)), Number)
                    self.assertIs(type(Number(*one) * Number(*other)), Number)

    def test_quotients(self):
        for one in SMALL[::3] + SOME:
            for other in SMALL[::5] + SOME:
                if other[0]:
                    expected = Fraction(*one) / Fraction(*other)
                    with self.subTest(one=one, other=other):
                        found = Number(*one).divided_by(Number(*other))
                        self.assertEqual(pair(found), plain(expected))
                        self.assertIs(type(found), Number)
        self.assertEqual(pair(Number(1).divided_by(other=Number(3))), (1, 3))

    def test_quotients_by_nought(self):
        for top, bottom, kept in ((3, 4, 3), (6, 4, 3), (6, -4, -3), (0, 1, 0), (-5, 1, -5), (10 ** 40, 3, 10 ** 40)):
            for nought in (Number(0), Number(0, -3), Number(1) - Number(1)):
                with self.assertRaises(BadNumber) as caught:
                    Number(top, bottom).divided_by(nought)
                self.assertEqual(caught.exception.value, (kept, 0))
                self.assertIs(type(caught.exception.value), tuple)

    def test_signs(self):
        for one in SMALL + BIG:
            value = Fraction(*one)
            with self.subTest(one=one):
                self.assertEqual(pair(-Number(*one)), plain(-value))
                self.assertEqual(pair(abs(Number(*one))), plain(abs(value)))
                self.assertIs(type(-Number(*one)), Number)
                self.assertIs(type(abs(Number(*one))), Number)

    def test_is_less(self):
        for one in SMALL[::2] + SOME:
            for other in SMALL[::3] + SOME:
                with self.subTest(one=one, other=other):
                    found = Number(*one).is_less(Number(*other))
                    self.assertIs(found, Fraction(*one) < Fraction(*other))
        self.assertIs(Number(1, 3).is_less(other=Number(1, 2)), True)
        self.assertIs(Number(10 ** 40, 10 ** 40 + 1).is_less(Number(1)), True)

    def test_truth(self):
        for one in SMALL + BIG:
            self.assertIs(bool(Number(*one)), bool(one[0]))

    def test_equal(self):
        for one in SMALL[::2] + SOME:
            for other in SMALL[::3] + SOME:
                same = Fraction(*one) == Fraction(*other)
                with self.subTest(one=one, other=other):
                    self.assertIs(Number(*one) == Number(*other), same)
                    self.assertIs(Number(*one) != Number(*other), not same)

    def test_equal_to_no_other_value(self):
        for number in (Number(0), Number(1), Number(2), Number(-1), Number(1, 2)):
            for value in any_values():
                if not isinstance(value, Number):
                    with self.subTest(value=value):
                        self.assertIs(number == value, False)
                        self.assertIs(value == number, False)
                        self.assertIs(number != value, True)

    def test_numbers_stay_as_they_were(self):
        one, other = Number(6, -4), Number(5, 7)
        results = [one + other, one - other, one * other, -one, abs(one), one.is_less(other), one.divided_by(other)]
        results += [bool(one), one == other, one + one, one - one, other * other, other.divided_by(other)]
        self.assertEqual(len(results), 13)
        self.assertEqual([pair(one), pair(other)], [(-3, 2), (5, 7)])

    def test_equal_calls_give_equal_results(self):
        for _ in range(2):
            self.assertEqual(pair(Number(1, 2) + Number(1, 3)), (5, 6))

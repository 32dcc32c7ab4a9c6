"""Section 4: Stretch."""

import unittest
from fractions import Fraction

from tests.helpers import any_values, others
from whatspeed.errors import BadStretch
from whatspeed.exact import Number, Stretch

BOTH = [(True, True), (True, False), (False, True), (False, False)]
ENDS = [(-3, 2), (0, 1), (1, 3), (1, 2), (1, 1), (10 ** 31, 10 ** 31 - 1)]


def pair(number):
    return number.top, number.bottom


class StretchTest(unittest.TestCase):

    def refused(self, low, high, /, *args, **more):
        with self.assertRaises(BadStretch) as caught:
            Stretch(*args, **more)
        value = caught.exception.value
        self.assertIs(type(caught.exception), BadStretch)
        self.assertIs(type(value), tuple)
        self.assertEqual(len(value), 2)
        self.assertIs(value[0], low)
        self.assertIs(value[1], high)

    def test_properties(self):
        low, high = Number(1, 3), Number(1, 2)
        for has_low, has_high in BOTH:
            one = Stretch(low, high, has_low=has_low, has_high=has_high)
            self.assertEqual([pair(one.low), pair(one.high)], [(1, 3), (1, 2)])
            self.assertIs(one.has_low, has_low)
            self.assertIs(one.has_high, has_high)
            self.assertEqual(pair(one.middle), (5, 12))
            self.assertIs(type(one.middle), Number)

    def test_ends_are_included_unless_told_otherwise(self):
        one = Stretch(Number(0), Number(1))
        self.assertEqual([one.has_low, one.has_high], [True, True])
        one = Stretch(Number(0), Number(1), has_low=False)
        self.assertEqual([one.has_low, one.has_high], [False, True])
        one = Stretch(Number(0), Number(1), has_high=False)
        self.assertEqual([one.has_low, one.has_high], [True, False])

    def test_arguments_by_name(self):
        one = Stretch(has_high=False, high=Number(2), has_low=True, low=Number(1))
        self.assertEqual([pair(one.low), pair(one.high), one.has_low, one.has_high], [(1, 1), (2, 1), True, False])

    def test_the_last_two_only_by_name(self):
        with self.assertRaises(TypeError):
            Stretch(Number(0), Number(1), True)

    def test_wrong_ends(self):
        low, high = Number(0), Number(1)
        for value in others() + [0, 1, 5]:
            with self.subTest(value=value):
                self.refused(value, high, value, high)
                self.refused(low, value, low, value)
                self.refused(value, value, value, value)
                self.refused(value, high, low=value, high=high, has_low=False)
                self.refused(low, value, low, high=value, has_high=False)

    def test_wrong_truths(self):
        low, high = Number(0), Number(1)
        for value in any_values():
            if not isinstance(value, bool):
                with self.subTest(value=value):
                    self.refused(low, high, low, high, has_low=value)
                    self.refused(low, high, low, high, has_high=value)
                    self.refused(low, high, low, high, has_low=value, has_high=value)
                    self.refused(low, low, low, low, has_low=value)
                    self.refused(low, low, low, low, has_high=value)
                    self.refused("a", high, "a", high, has_high=value)

    def test_low_above_high(self):
        for at, low in enumerate(ENDS):
            for high in ENDS[:at]:
                one, two = Number(*low), Number(*high)
                for has_low, has_high in BOTH:
                    self.refused(one, two, one, two, has_low=has_low, has_high=has_high)

    def test_low_below_high(self):
        for at, high in enumerate(ENDS):
            for low in ENDS[:at]:
                for has_low, has_high in BOTH:
                    one = Stretch(Number(*low), Number(*high), has_low=has_low, has_high=has_high)
                    self.assertEqual([one.has_low, one.has_high], [has_low, has_high])

    def test_equal_ends(self):
        for end in ENDS:
            low, high = Number(*end), Number(*end)
            one = Stretch(low, high)
            self.assertTrue(one.low == one.high == one.middle == low)
            self.assertIs(low in one, True)
            self.assertIs(low + Number(1, 10 ** 9) in one, False)
            self.assertIs(low - Number(1, 10 ** 9) in one, False)
            for has_low, has_high in BOTH[1:]:
                self.refused(low, high, low, high, has_low=has_low, has_high=has_high)

    def test_what_is_in_it(self):
        low, high = Number(1, 3), Number(1, 2)
        for has_low, has_high in BOTH:
            one = Stretch(low, high, has_low=has_low, has_high=has_high)
            with self.subTest(has_low=has_low, has_high=has_high):
                self.assertIs(Number(1, 3) in one, has_low)
                self.assertIs(Number(1, 2) in one, has_high)
                for top, bottom in ((2, 5), (5, 12), (334, 1000), (499, 1000)):
                    self.assertIs(Number(top, bottom) in one, True)
                for top, bottom in ((0, 1), (333, 1000), (501, 1000), (1, 1), (-2, 5), (5, 1), (10 ** 32, 1)):
                    self.assertIs(Number(top, bottom) in one, False)
                    self.assertIs(Number(top, bottom) not in one, True)

    def test_middle(self):
        for at, high in enumerate(ENDS):
            for low in ENDS[:at]:
                found = Stretch(Number(*low), Number(*high), has_low=False).middle
                expected = (Fraction(*low) + Fraction(*high)) / 2
                self.assertEqual(pair(found), (expected.numerator, expected.denominator))

    def test_equal(self):
        rows = []
        for low, high in ((0, 1), (0, 2), (1, 2), (-1, 1)):
            rows.extend([(low, high, has_low, has_high) for has_low, has_high in BOTH])
        for one in rows:
            for other in rows:
                left, right = [
                    Stretch(Number(low), Number(high), has_low=has_low, has_high=has_high)
                    for low, high, has_low, has_high in (one, other)
                ]
                with self.subTest(one=one, other=other):
                    self.assertIs(left == right, one == other)
                    self.assertIs(left != right, one != other)

    def test_equal_to_no_other_value(self):
        for stretch in (Stretch(Number(0), Number(1)), Stretch(Number(0), Number(0))):
            for value in any_values() + [(Number(0), Number(1), True, True), (Number(0), Number(0))]:
                if not isinstance(value, Stretch):
                    with self.subTest(value=value):
                        self.assertIs(stretch == value, False)
                        self.assertIs(value == stretch, False)
                        self.assertIs(stretch != value, True)

    def test_stretches_stay_as_they_were(self):
        low, high, s = Number(1, 3), Number(1, 2), Number(2, 5)
        one = Stretch(low, high, has_high=False)
        results = [s in one, one.middle, one == Stretch(low, high), low in one, high in one]
        self.assertEqual(len(results), 5)
        self.assertEqual([pair(one.low), pair(one.high), one.has_low, one.has_high], [(1, 3), (1, 2), True, False])
        self.assertEqual([pair(low), pair(high), pair(s)], [(1, 3), (1, 2), (2, 5)])

"""Sections 2 and 14: the errors."""

import unittest

from tests.helpers import any_values
from whatspeed import errors
from whatspeed.errors import SpeedError

WITH_VALUE = (
    "BadNumber BadStretch BadSpeeds NoEvent BadTime NoTask NoThing BadQuestion NoSpeed BadOffers NoLine BadText BadLine"
).split()
WITH_LINE = "BadProgram Doubled Unnamed".split()
WITHOUT = "TooMany NothingToUndo NothingToRedo".split()


class ErrorsTest(unittest.TestCase):

    def test_the_base_is_directly_below_value_error(self):
        self.assertEqual(SpeedError.__bases__, (ValueError,))
        self.assertEqual(SpeedError.__module__, "whatspeed.errors")

    def test_each_error_is_directly_below_speed_error(self):
        for name in WITH_VALUE + WITH_LINE + WITHOUT:
            with self.subTest(name):
                error = getattr(errors, name)
                self.assertEqual(error.__name__, name)
                self.assertEqual(error.__bases__, (SpeedError,))
                self.assertEqual(error.__module__, "whatspeed.errors")

    def test_value_is_kept(self):
        for name in WITH_VALUE:
            error = getattr(errors, name)
            for value in any_values():
                with self.subTest(name, value=value):
                    self.assertIs(error(value).value, value)
                    self.assertIs(error(value=value).value, value)

    def test_line_is_kept(self):
        for name in WITH_LINE:
            error = getattr(errors, name)
            for value in any_values():
                with self.subTest(name, value=value):
                    self.assertIs(error(value).line, value)
                    self.assertIs(error(line=value).line, value)

    def test_what_is_kept_stays_as_it_was(self):
        for name in WITH_VALUE + WITH_LINE:
            value = [1, {"a": [2]}]
            getattr(errors, name)(value)
            self.assertEqual(value, [1, {"a": [2]}])

    def test_errors_without_an_argument(self):
        for name in WITHOUT:
            with self.subTest(name):
                error = getattr(errors, name)
                with self.assertRaises(ValueError) as caught:
                    raise error()
                self.assertIs(type(caught.exception), error)

    def test_each_error_can_be_raised_and_caught(self):
        for name in WITH_VALUE + WITH_LINE:
            with self.subTest(name):
                error = getattr(errors, name)
                with self.assertRaises(SpeedError) as caught:
                    raise error((1, None))
                self.assertIs(type(caught.exception), error)

    def test_errors_are_different(self):
        names = WITH_VALUE + WITH_LINE + WITHOUT
        self.assertEqual(len({getattr(errors, name) for name in names}), 19)

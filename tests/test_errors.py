"""The refusals [2], and the interface's row on backline/errors.py."""

import unittest

from backline import errors

NAMES = (
    "NoSize", "NoPoint", "NoHand", "NoLetter", "NoOrder", "NoMark",
    "TooSoon", "NotDone", "NoText", "NoRow", "NoLoom",
)


class ErrorsTest(unittest.TestCase):
    def test_the_base_stands_straight_under_value_error(self):
        self.assertEqual(errors.WeaveError.__bases__, (ValueError,))

    def test_each_refusal_stands_straight_under_the_base(self):
        for name in NAMES:
            with self.subTest(name):
                self.assertEqual(getattr(errors, name).__bases__, (errors.WeaveError,))

    def test_no_refusal_is_another_ones_class(self):
        for one in NAMES:
            for other in NAMES:
                if one != other:
                    self.assertFalse(issubclass(getattr(errors, one), getattr(errors, other)))

    def test_each_can_be_raised_and_taken_as_base_and_as_value_error(self):
        for name in NAMES:
            for taken in (errors.WeaveError, ValueError):
                with self.assertRaises(taken):
                    raise getattr(errors, name)("why")

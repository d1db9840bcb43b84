"""The error classes."""

import unittest

from linkpay import errors

NAMES = ["NoRow", "NoOpened", "TooMany", "NoAmount", "NoPayment", "NoCount", "NoNote"]


class ErrorClasses(unittest.TestCase):
    def test_any_refusal_is_a_value_error(self):
        self.assertEqual(errors.PayError.__bases__, (ValueError,))

    def test_each_refusal_stands_straight_under_pay_error(self):
        for name in NAMES:
            with self.subTest(name):
                self.assertEqual(getattr(errors, name).__bases__, (errors.PayError,))

    def test_the_refusals_are_unlike_classes_of_their_names(self):
        self.assertEqual([getattr(errors, name).__name__ for name in NAMES], NAMES)

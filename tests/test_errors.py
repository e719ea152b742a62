"""The errors of the interface."""

import unittest

from similarforms.errors import Fault, Malformed, NoText, Refused, ZeroDivisor

FOUR = (ZeroDivisor, Malformed, Refused, NoText)


class ErrorsTest(unittest.TestCase):
    def test_fault_is_a_value_error(self):
        self.assertTrue(issubclass(Fault, ValueError))
        self.assertIsNot(Fault, ValueError)

    def test_all_four_are_faults(self):
        for one in FOUR:
            self.assertTrue(issubclass(one, Fault))
            self.assertIsNot(one, Fault)

    def test_none_of_the_four_is_a_subclass_of_another(self):
        for one in FOUR:
            for other in FOUR:
                self.assertEqual(issubclass(one, other), one is other)

    def test_no_error_of_python_is_a_fault(self):
        self.assertFalse(issubclass(ZeroDivisor, ZeroDivisionError))
        self.assertFalse(issubclass(ValueError, Fault))

    def test_reason(self):
        self.assertEqual(Refused("many").reason, "many")
        self.assertEqual(Refused(reason="large").reason, "large")

    def test_at(self):
        self.assertEqual(NoText(0).at, 0)
        self.assertEqual(NoText(at=17).at, 17)

    def test_they_can_be_raised_and_caught_as_faults(self):
        for error in (ZeroDivisor("a"), Malformed("b"), Refused("many"), NoText(3)):
            with self.assertRaises(Fault):
                raise error

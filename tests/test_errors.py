"""Tests of stepwright.errors."""

import unittest

from stepwright import errors

NAMES = (
    "BadPart",
    "BadTree",
    "BadTable",
    "BadField",
    "BadPaper",
    "BadSize",
    "BadText",
    "BadStore",
    "NoSuch",
)


class ErrorTests(unittest.TestCase):
    def test_step_fault_is_a_value_error(self):
        self.assertTrue(issubclass(errors.StepFault, ValueError))

    def test_each_stands_right_under_step_fault(self):
        for name in NAMES:
            with self.subTest(name):
                self.assertEqual(getattr(errors, name).__bases__, (errors.StepFault,))

    def test_each_is_caught_by_its_name_and_as_step_fault(self):
        for name in NAMES:
            with self.subTest(name):
                kind = getattr(errors, name)
                with self.assertRaises(kind) as caught:
                    raise kind("why")
                self.assertIsInstance(caught.exception, errors.StepFault)
                self.assertEqual(str(caught.exception), "why")

    def test_none_is_caught_by_another_name(self):
        for name in NAMES:
            for other in NAMES:
                if other != name:
                    self.assertFalse(issubclass(getattr(errors, name), getattr(errors, other)))


if __name__ == "__main__":
    unittest.main()

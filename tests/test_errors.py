"""Point 21: all errors."""

import unittest

from chipstack import errors

NAMES = ("PlanError", "GateError", "PlaceError", "BitError", "CodeError", "RunError")


class ErrorsTest(unittest.TestCase):
    def test_the_base_is_a_value_error(self):
        self.assertTrue(issubclass(errors.ChipError, ValueError))

    def test_all_stand_under_the_base(self):
        for name in NAMES:
            self.assertTrue(issubclass(getattr(errors, name), errors.ChipError), name)

    def test_none_stands_under_another_one(self):
        for one in NAMES:
            for other in NAMES:
                if one != other:
                    self.assertFalse(issubclass(getattr(errors, one), getattr(errors, other)), (one, other))

    def test_they_have_words(self):
        for name in ("ChipError", *NAMES):
            with self.assertRaisesRegex(ValueError, "told"):
                raise getattr(errors, name)("told")


if __name__ == "__main__":
    unittest.main()

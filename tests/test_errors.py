"""The refusals of the interface."""

import unittest

from tilefloor import errors

NAMES = ("BadFloor", "BadLaying", "TooMany", "NoTurn", "NotPlain", "BadText")


class Refusals(unittest.TestCase):
    def test_floor_error_stands_under_value_error(self):
        self.assertEqual(errors.FloorError.__bases__, (ValueError,))

    def test_each_stands_straight_under_floor_error(self):
        for name in NAMES:
            with self.subTest(name):
                self.assertEqual(getattr(errors, name).__bases__, (errors.FloorError,))

    def test_none_stands_under_another(self):
        for name in NAMES:
            for other in NAMES:
                under = issubclass(getattr(errors, name), getattr(errors, other))
                self.assertEqual(under, name == other, (name, other))

    def test_each_is_raised_with_words_and_taken_by_both(self):
        for name in NAMES:
            for taken in (errors.FloorError, ValueError):
                with self.subTest(name), self.assertRaises(taken) as told:
                    raise getattr(errors, name)("some words")
                self.assertEqual(str(told.exception), "some words")


if __name__ == "__main__":
    unittest.main()

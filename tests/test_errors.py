"""Point 3: the classes of refusals."""

import unittest

from rootpapers import errors

NAMES = ("NoNumber", "NoInverse", "NoPrime", "IsPrime", "NoRoot", "NoPaper", "NoText", "NoForm")


class Errors(unittest.TestCase):
    def test_root_error_stands_straight_under_value_error(self):
        self.assertEqual(errors.RootError.__bases__, (ValueError,))

    def test_each_class_stands_straight_under_root_error(self):
        for name in NAMES:
            with self.subTest(name=name):
                self.assertEqual(getattr(errors, name).__bases__, (errors.RootError,))
                self.assertEqual(getattr(errors, name).__name__, name)

    def test_no_class_stands_under_another_one(self):
        for name in NAMES:
            for other in NAMES:
                if name != other:
                    with self.subTest(name=name, other=other):
                        self.assertFalse(issubclass(getattr(errors, name), getattr(errors, other)))

    def test_each_is_raised_with_words_and_taken_as_root_error(self):
        for name in NAMES:
            with self.subTest(name=name):
                with self.assertRaises(errors.RootError):
                    raise getattr(errors, name)("some words")


if __name__ == "__main__":
    unittest.main()

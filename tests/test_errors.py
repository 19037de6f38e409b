"""bendwright/errors.py: the classes of the refusals."""

import unittest

from bendwright import errors

NAMES = [
    "BadNumber", "BadProgram", "BadPlaces", "BadWays", "BadStretch", "BadPicture", "BadStep", "Others", "NoBack",
    "Jumpy",
]


class TestErrors(unittest.TestCase):
    def test_the_base_stands_straight_under_valueerror(self):
        self.assertEqual(errors.BendError.__bases__, (ValueError,))

    def test_ten_stand_straight_under_the_base(self):
        for name in NAMES:
            with self.subTest(name=name):
                self.assertEqual(getattr(errors, name).__bases__, (errors.BendError,))
                self.assertEqual(getattr(errors, name).__name__, name)

    def test_the_ten_are_ten_classes(self):
        self.assertEqual(len({getattr(errors, name) for name in NAMES}), 10)


if __name__ == "__main__":
    unittest.main()

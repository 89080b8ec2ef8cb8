"""The interface of meterhouse.errors."""

import unittest

from meterhouse import errors
from meterhouse.errors import HouseError

NAMES = (
    "NoCode", "NoClash", "NoSlot", "Taken", "NoNumber", "TooMuch",
    "NoAccount", "NoLimit", "PoorPurse", "PoorCoin", "NoPaper", "NoRow",
)


def taken_by(error, kind):
    try:
        raise error
    except kind:
        return True
    except Exception:
        return False


class Errors(unittest.TestCase):
    def classes(self):
        return [getattr(errors, name) for name in NAMES]

    def test_house_error_is_straight_under_value_error(self):
        self.assertEqual(HouseError.__bases__, (ValueError,))

    def test_each_class_is_straight_under_house_error(self):
        for name, kind in zip(NAMES, self.classes()):
            with self.subTest(name=name):
                self.assertEqual(kind.__bases__, (HouseError,))
                self.assertEqual(kind.__name__, name)

    def test_an_error_is_taken_by_its_own_class_and_by_no_other_of_the_twelve(self):
        classes = self.classes()
        self.assertEqual(len(set(classes)), 12)
        for raised in classes:
            for kind in classes:
                with self.subTest(raised=raised.__name__, kind=kind.__name__):
                    self.assertEqual(taken_by(raised("words"), kind), raised is kind)

    def test_each_error_is_taken_as_a_house_error_and_as_a_value_error(self):
        for kind in self.classes():
            with self.subTest(kind=kind.__name__):
                self.assertTrue(taken_by(kind("words"), HouseError))
                self.assertTrue(taken_by(kind("words"), ValueError))

    def test_a_house_error_is_taken_by_none_of_the_twelve(self):
        for kind in self.classes():
            with self.subTest(kind=kind.__name__):
                self.assertFalse(taken_by(HouseError("words"), kind))

    def test_an_error_of_pythons_own_is_no_house_error(self):
        self.assertFalse(taken_by(ValueError("words"), HouseError))


if __name__ == "__main__":
    unittest.main()

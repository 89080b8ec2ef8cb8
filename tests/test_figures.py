"""Point 8: how a number is written."""

import random
import unittest

from meterhouse.figures import number_of

WIDE = 2 ** 64
FIGURES = "0123456789"
SIGNS = [chr(k) for k in range(32, 127) if chr(k) != "%"]


class WrittenNumbers(unittest.TestCase):
    def check_none(self, texts):
        for text in texts:
            with self.subTest(text=text[:40], signs=len(text)):
                self.assertIsNone(number_of(text))

    def test_ordinary_and_edge_numbers_are_read(self):
        for number in (0, 1, 2, 9, 10, 11, 42, 99, 100, 101, 10 ** 18, 10 ** 19, WIDE - 2, WIDE - 1):
            with self.subTest(number=number):
                self.assertEqual(number_of(str(number)), number)
                self.assertIs(type(number_of(str(number))), int)

    def test_each_count_of_figures_is_read(self):
        for many in range(1, 21):
            text = ("1" + "0123456789" * 2)[:many]
            with self.subTest(text=text):
                self.assertEqual(number_of(text), int(text))

    def test_drawn_numbers_are_read(self):
        draw = random.Random(8)
        for turn in range(2000):
            number = draw.getrandbits(draw.choice((1, 3, 8, 20, 40, 63, 64)))
            self.assertEqual(number_of(str(number)), number)

    def test_wide_and_more_write_none(self):
        self.check_none([str(WIDE), str(WIDE + 1), str(WIDE + 9), "20000000000000000000", "9" * 20])

    def test_more_than_twenty_figures_write_none(self):
        self.check_none(["1" + "0" * 20, "9" * 21, "1" * 21, "0" * 21, "1" * 5000, "9" * 5000, "0" * 5000, "1" * 20000])

    def test_a_nought_ahead_writes_none(self):
        self.check_none(["00", "01", "007", "000", "0" + str(WIDE - 1), "0" * 19 + "1", "0" * 20])

    def test_the_text_without_signs_writes_none(self):
        self.assertIsNone(number_of(""))

    def test_a_sign_that_is_no_figure_at_any_place(self):
        for sign in SIGNS:
            if sign not in FIGURES:
                self.check_none([sign, sign + "5", "5" + sign, "12" + sign + "34", sign + "0", "0" + sign, sign * 2])

    def test_forms_that_python_would_read(self):
        self.check_none([
            "+5", "-5", "-0", "+0", " 5", "5 ", " 5 ", "1_000", "1,000", "0x10", "0b1", "1e3", "5.0", "5.", "\t5", "5\n",
            "\u0661", "\u00b2", "1\u0660", "\uff11",
        ])


if __name__ == "__main__":
    unittest.main()

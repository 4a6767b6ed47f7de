"""Whole numbers as they stand in texts: what points 3 and 6 say of numbers."""

import unittest

from postmead.figures import whole_read

NO_NUMBERS = [
    "", "-", "--1", "+1", "-+1", "00", "01", "-01", "-0", "-00", " 1", "1 ", "1\n", "\n1",
    "1_0", "1.0", "1e3", "0x1", "1-", "a", "1,000", "\u0663", "\u00b2", "\uff11",
]


class TestWholeRead(unittest.TestCase):
    def test_numbers(self):
        for number in (0, 1, 9, 10, 100, -1, -9, -10, 1234567890, -10 ** 30):
            with self.subTest(number):
                self.assertEqual(whole_read(str(number)), number)

    def test_no_numbers(self):
        for word in NO_NUMBERS:
            with self.subTest(word):
                self.assertIsNone(whole_read(word))

    def test_400_figures_are_read_and_the_sign_is_no_figure(self):
        self.assertEqual(whole_read("7" * 400), 7 * (10 ** 400 - 1) // 9)
        self.assertEqual(whole_read("-" + "7" * 400), -7 * (10 ** 400 - 1) // 9)

    def test_more_than_400_figures_are_not_read(self):
        for many in (401, 4000, 4301, 5000, 100000):
            with self.subTest(many):
                self.assertIsNone(whole_read("7" * many))
                self.assertIsNone(whole_read("-" + "7" * many))


if __name__ == "__main__":
    unittest.main()

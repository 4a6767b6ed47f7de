"""Points 1 to 3: fractions, and fractions as texts."""

import unittest
from fractions import Fraction

from postmead.errors import NoFraction
from postmead.parts import (
    is_length, is_part, less, lowest, over, part_read, part_text, plus, smaller, times)

FEW = range(-7, 8)
BIG = 10 ** 40 + 7
HUGE = 10 ** 5000


def told(fraction):
    return (fraction.numerator, fraction.denominator)


def some_parts():
    return sorted({told(Fraction(top, bottom)) for top in FEW for bottom in range(1, 6)})


class TestLowest(unittest.TestCase):
    def test_ordinary(self):
        self.assertEqual(lowest(6, 4), (3, 2))
        self.assertEqual(lowest(3, 4), (3, 4))
        self.assertEqual(lowest(-6, 4), (-3, 2))
        self.assertEqual(lowest(7, 1), (7, 1))

    def test_a_bottom_below_nought(self):
        self.assertEqual(lowest(6, -4), (-3, 2))
        self.assertEqual(lowest(-6, -4), (3, 2))
        self.assertEqual(lowest(1, -1), (-1, 1))

    def test_nought(self):
        for bottom in (1, 5, -1, -5, BIG, -BIG):
            with self.subTest(bottom):
                self.assertEqual(lowest(0, bottom), (0, 1))

    def test_as_fractions_are(self):
        for top in FEW:
            for bottom in FEW:
                if bottom != 0:
                    with self.subTest(top=top, bottom=bottom):
                        self.assertEqual(lowest(top, bottom), told(Fraction(top, bottom)))

    def test_kinds(self):
        one = lowest(4, 2)
        self.assertIs(type(one), tuple)
        self.assertEqual([type(number) for number in one], [int, int])

    def test_a_bottom_of_nought_is_refused(self):
        for top in (0, 1, -1, BIG, HUGE):
            with self.assertRaises(NoFraction):
                lowest(top, 0)

    def test_big_numbers(self):
        self.assertEqual(lowest(BIG * 6, BIG * -4), (-3, 2))
        self.assertEqual(lowest(BIG, BIG + 1), (BIG, BIG + 1))
        self.assertTrue(lowest(HUGE * 3, HUGE * 2) == (3, 2))


class TestReckoning(unittest.TestCase):
    def test_ordinary(self):
        self.assertEqual(plus((1, 2), (1, 3)), (5, 6))
        self.assertEqual(less((1, 2), (1, 3)), (1, 6))
        self.assertEqual(times((2, 3), (3, 4)), (1, 2))
        self.assertEqual(over((1, 2), (-3, 4)), (-2, 3))

    def test_what_comes_to_nought(self):
        self.assertEqual(plus((1, 2), (-1, 2)), (0, 1))
        self.assertEqual(less((3, 4), (3, 4)), (0, 1))
        self.assertEqual(times((3, 4), (0, 1)), (0, 1))
        self.assertEqual(over((0, 1), (-3, 4)), (0, 1))

    def test_as_fractions_are(self):
        for one in some_parts():
            for other in some_parts():
                with self.subTest(one=one, other=other):
                    first, second = Fraction(*one), Fraction(*other)
                    self.assertEqual(plus(one, other), told(first + second))
                    self.assertEqual(less(one, other), told(first - second))
                    self.assertEqual(times(one, other), told(first * second))
                    self.assertIs(smaller(one, other), first < second)
                    if second != 0:
                        self.assertEqual(over(one, other), told(first / second))

    def test_a_division_by_nought_is_refused(self):
        for one in ((0, 1), (1, 2), (-3, 4), (BIG, 1), (HUGE, 1)):
            with self.assertRaises(NoFraction):
                over(one, (0, 1))

    def test_big_numbers(self):
        one, other = (BIG, BIG + 1), (-BIG - 2, BIG + 3)
        first, second = Fraction(*one), Fraction(*other)
        self.assertEqual(plus(one, other), told(first + second))
        self.assertEqual(less(one, other), told(first - second))
        self.assertEqual(times(one, other), told(first * second))
        self.assertEqual(over(one, other), told(first / second))
        self.assertIs(smaller((BIG, BIG + 1), (BIG + 1, BIG + 2)), True)
        self.assertIs(smaller((BIG + 1, BIG + 2), (BIG, BIG + 1)), False)

    def test_smaller_below_nought(self):
        self.assertIs(smaller((-1, 2), (-1, 3)), True)
        self.assertIs(smaller((-1, 3), (-1, 2)), False)
        self.assertIs(smaller((-1, 2), (1, 3)), True)
        self.assertIs(smaller((1, 3), (-1, 2)), False)
        self.assertIs(smaller((-1, 2), (0, 1)), True)
        self.assertIs(smaller((-1, 2), (-1, 2)), False)


class TestTexts(unittest.TestCase):
    def test_written(self):
        self.assertEqual(part_text((-3, 4)), "-3/4")
        self.assertEqual(part_text((0, 1)), "0/1")
        self.assertEqual(part_text((7, 1)), "7/1")
        self.assertEqual(part_text((1, BIG)), "1/1" + "0" * 39 + "7")

    def test_what_is_written_is_read(self):
        for one in some_parts() + [(BIG, BIG + 1), (-BIG, BIG + 1)]:
            with self.subTest(one):
                self.assertEqual(part_read(part_text(one)), one)

    def test_what_is_read_is_a_tuple_of_whole_numbers(self):
        one = part_read("-3/4")
        self.assertIs(type(one), tuple)
        self.assertEqual([type(number) for number in one], [int, int])

    def test_other_texts_are_refused(self):
        texts = [
            "", "/", "1", "1/", "/1", "3/4/5", "1//1", "-", "-/1", "-1/-", "a/b",
            "01/2", "1/02", "00/1", "-01/2", "-0/1", "--1/2", "0/2", "0/-1", "2/4", "-2/4",
            "6/3", "1/0", "0/0", "1/-2", "-1/-2", "1/00", "+1/2", "1/+2", "-+1/2",
            " 1/2", "1/2 ", "1 /2", "1/ 2", "1/2\n", "\n1/2", "1\n/2",
            "1_0/3", "1/1_0", "1.0/2", "1e1/3", "1:2", "1\\2", "1/2;", "\u0661/\u0662", "1/\u00b2",
        ]
        for text in texts:
            with self.subTest(text):
                with self.assertRaises(NoFraction):
                    part_read(text)

    def test_400_figures_are_read(self):
        nines = 10 ** 400 - 1
        tens = 10 ** 399
        self.assertEqual(part_read("9" * 400 + "/1"), (nines, 1))
        self.assertEqual(part_read("-" + "9" * 400 + "/1" + "0" * 399), (-nines, tens))
        for one in ((nines, tens), (-nines, tens), (1, nines)):
            self.assertEqual(part_read(part_text(one)), one)

    def test_more_than_400_figures_are_refused(self):
        for many in (401, 4300, 4301, 5000):
            for text in ("9" * many + "/1", "-" + "9" * many + "/1", "1/" + "9" * many):
                with self.subTest(many):
                    with self.assertRaises(NoFraction):
                        part_read(text)

    def test_4000_figures_are_written(self):
        self.assertEqual(part_text((10 ** 3999, 1)), "1" + "0" * 3999 + "/1")
        self.assertEqual(part_text((-1, 10 ** 3999)), "-1/1" + "0" * 3999)


class TestKindsOfPairs(unittest.TestCase):
    def test_pairs_of_few_numbers(self):
        for top in FEW:
            for bottom in FEW:
                with self.subTest(top, bottom=bottom):
                    fraction = bottom > 0 and lowest(top, bottom) == (top, bottom)
                    self.assertIs(is_part((top, bottom)), fraction)
                    self.assertIs(is_length((top, bottom)), fraction and top > 0)

    def test_numbers_of_any_size(self):
        self.assertTrue(is_length((HUGE, HUGE + 1)))
        self.assertTrue(is_part((-HUGE, 1)))
        for pair in ((HUGE, HUGE), (HUGE, -1), (1, -HUGE), (0, HUGE)):
            self.assertFalse(is_part(pair))
            self.assertFalse(is_length(pair))


if __name__ == "__main__":
    unittest.main()

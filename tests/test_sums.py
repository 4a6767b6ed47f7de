"""Points 1 and 4 to 6: letter sums, their worth, and letter sums as texts."""

import unittest
from fractions import Fraction

from postmead.errors import BadSum, NoLetter
from postmead.sums import letter, sum_plus, sum_read, sum_text, sum_times, worth

A, B, C = (0, 2), (1, 3), (2, 3)
BIG = 10 ** 35 + 3
HUGE = 10 ** 5000
LENGTHS = {A: (2, 3), B: (5, 4), C: (7, 1)}


def some_sums():
    return [
        [],
        [((), 3)],
        [((), -3)],
        [(((A, 1),), 1)],
        [(((A, -1),), -1)],
        [((), 2), (((A, 1), (B, -2)), -1)],
        [((), -2), (((A, -2),), 4), (((A, 1), (B, 1)), 1), (((B, 3), (C, -1)), BIG)],
    ]


def is_one_form(one):
    """Whether it is a letter sum in the one form of point 4, told apart from the program."""
    rows = [row for row, _ in one]
    if type(one) is not list or rows != sorted(set(rows)):
        return False
    for term in one:
        row, count = term
        pairs = [pair for pair, _ in row]
        if type(term) is not tuple or type(row) is not tuple or type(count) is not int:
            return False
        if count == 0 or 0 in [power for _, power in row] or pairs != sorted(set(pairs)):
            return False
        if [type(item) for item in row] != [tuple] * len(row):
            return False
    return True


def reckoned(one, lengths):
    total = Fraction(0)
    for row, count in one:
        term = Fraction(count)
        for pair, power in row:
            term *= Fraction(*lengths[pair]) ** power
        total += term
    return (total.numerator, total.denominator)


class TestLetter(unittest.TestCase):
    def test_either_order(self):
        self.assertEqual(letter(0, 2), [((((0, 2), 1),), 1)])
        self.assertEqual(letter(2, 0), [((((0, 2), 1),), 1)])
        self.assertEqual(letter(BIG, 1), [((((1, BIG), 1),), 1)])

    def test_a_new_list_each_time(self):
        told = letter(0, 2)
        told.clear()
        self.assertEqual(letter(0, 2), [((((0, 2), 1),), 1)])


class TestPlus(unittest.TestCase):
    def test_counts_of_the_same_row_come_together(self):
        self.assertEqual(sum_plus([((), 3)], [((), 4)]), [((), 7)])
        self.assertEqual(sum_plus(letter(0, 2), letter(2, 0)), [(((A, 1),), 2)])

    def test_rows_rise(self):
        self.assertEqual(
            sum_plus(letter(1, 3), letter(0, 2)), [(((A, 1),), 1), (((B, 1),), 1)])
        self.assertEqual(sum_plus(letter(0, 2), [((), 5)]), [((), 5), (((A, 1),), 1)])
        longer = [(((A, 1), (B, 1)), 1)]
        self.assertEqual(
            sum_plus(longer, letter(0, 2)), [(((A, 1),), 1), (((A, 1), (B, 1)), 1)])
        self.assertEqual(
            sum_plus([(((A, 1),), 1)], [(((A, -1),), 1)]),
            [(((A, -1),), 1), (((A, 1),), 1)])
        self.assertEqual(
            sum_plus(letter(2, 10), letter(2, 9)),
            [((((2, 9), 1),), 1), ((((2, 10), 1),), 1)])

    def test_terms_that_come_to_nought_fall_out(self):
        self.assertEqual(sum_plus([((), 3)], [((), -3)]), [])
        self.assertEqual(
            sum_plus([((), 2), (((A, 1),), 1)], [((), -2), (((B, 1),), 1)]),
            [(((A, 1),), 1), (((B, 1),), 1)])

    def test_the_empty_sum(self):
        for one in some_sums():
            self.assertEqual(sum_plus(one, []), one)
            self.assertEqual(sum_plus([], one), one)

    def test_one_form_and_either_order(self):
        for one in some_sums():
            for other in some_sums():
                told = sum_plus(one, other)
                self.assertTrue(is_one_form(told))
                self.assertEqual(told, sum_plus(other, one))
                self.assertEqual(
                    worth(told, LENGTHS), reckoned(one + other, LENGTHS))

    def test_a_sum_less_itself_is_empty(self):
        for one in some_sums():
            self.assertEqual(sum_plus(one, sum_times([((), -1)], one)), [])

    def test_big_counts(self):
        self.assertEqual(sum_plus([((), BIG)], [((), -1)]), [((), BIG - 1)])
        self.assertTrue(sum_plus([((), HUGE)], [((), 1)]) == [((), HUGE + 1)])


class TestTimes(unittest.TestCase):
    def test_each_term_with_each(self):
        one = sum_plus(letter(0, 2), letter(1, 3))
        self.assertEqual(
            sum_times(one, one), [(((A, 1), (B, 1)), 2), (((A, 2),), 1), (((B, 2),), 1)])

    def test_letters_rise_within_a_row(self):
        self.assertEqual(sum_times(letter(1, 3), letter(0, 2)), [(((A, 1), (B, 1)), 1)])

    def test_a_letter_whose_power_comes_to_nought_falls_out(self):
        self.assertEqual(sum_times(letter(0, 2), [(((A, -1),), 1)]), [((), 1)])
        self.assertEqual(
            sum_times([(((A, 2), (B, 1)), 3)], [(((A, -2), (C, -1)), 2)]),
            [(((B, 1), (C, -1)), 6)])

    def test_terms_that_come_to_nought_fall_out(self):
        one = sum_plus(letter(0, 2), letter(1, 3))
        other = sum_plus(letter(0, 2), [(((B, 1),), -1)])
        self.assertEqual(sum_times(one, other), [(((A, 2),), 1), (((B, 2),), -1)])

    def test_powers_below_nought(self):
        self.assertEqual(
            sum_times([(((A, -1),), 2)], [(((A, -2),), -3)]), [(((A, -3),), -6)])

    def test_the_plain_number_and_the_empty_sum(self):
        for one in some_sums():
            self.assertEqual(sum_times(one, [((), 1)]), one)
            self.assertEqual(sum_times([((), 3)], one), [(row, 3 * count) for row, count in one])
            self.assertEqual(sum_times(one, []), [])
            self.assertEqual(sum_times([], one), [])

    def test_one_form_and_either_order(self):
        for one in some_sums():
            for other in some_sums():
                told = sum_times(one, other)
                self.assertTrue(is_one_form(told))
                self.assertEqual(told, sum_times(other, one))
                first, second = Fraction(*reckoned(one, LENGTHS)), Fraction(*reckoned(other, LENGTHS))
                self.assertEqual(Fraction(*reckoned(told, LENGTHS)), first * second)

    def test_big_powers(self):
        one = [(((A, BIG),), 1)]
        self.assertEqual(sum_times(one, one), [(((A, 2 * BIG),), 1)])


class TestHandedIn(unittest.TestCase):
    def test_both_lists_stay_as_they_were(self):
        for doing in (sum_plus, sum_times):
            for at in range(len(some_sums())):
                for other_at in range(len(some_sums())):
                    one, other = some_sums()[at], some_sums()[other_at]
                    told = doing(one, other)
                    told.append(((), 99))
                    told.reverse()
                    self.assertEqual((one, other), (some_sums()[at], some_sums()[other_at]))

    def test_what_is_told_stays_when_a_list_handed_in_changes(self):
        one = [((), 1), (((A, 1),), 1)]
        by_plus, by_times = sum_plus(one, []), sum_times(one, [((), 1)])
        one.clear()
        self.assertEqual(by_plus, [((), 1), (((A, 1),), 1)])
        self.assertEqual(by_times, [((), 1), (((A, 1),), 1)])

    def test_the_same_list_twice(self):
        one = letter(0, 2)
        self.assertEqual(sum_plus(one, one), [(((A, 1),), 2)])
        self.assertEqual(sum_times(one, one), [(((A, 2),), 1)])
        self.assertEqual(one, [(((A, 1),), 1)])

    def test_worth_and_text_change_nothing(self):
        one = some_sums()[-1]
        lengths = dict(LENGTHS)
        worth(one, lengths)
        sum_text(one)
        self.assertEqual(one, some_sums()[-1])
        self.assertEqual(lengths, LENGTHS)


class TestWorth(unittest.TestCase):
    def test_the_empty_sum_and_the_plain_number(self):
        self.assertEqual(worth([], {}), (0, 1))
        self.assertEqual(worth([], LENGTHS), (0, 1))
        self.assertEqual(worth([((), 3)], {}), (3, 1))
        self.assertEqual(worth([((), -3)], LENGTHS), (-3, 1))

    def test_ordinary(self):
        self.assertEqual(worth(letter(0, 2), LENGTHS), (2, 3))
        self.assertEqual(worth([((), 2), (((A, 1), (B, 1)), -1)], LENGTHS), (7, 6))
        self.assertEqual(worth([(((A, 2),), 3)], LENGTHS), (4, 3))

    def test_powers_below_nought(self):
        self.assertEqual(worth([(((A, -1),), 1)], LENGTHS), (3, 2))
        self.assertEqual(worth([(((A, -3), (B, 2)), -8)], LENGTHS), (-675, 16))

    def test_what_comes_to_nought(self):
        self.assertEqual(worth([((), -2), (((A, 1),), 3)], LENGTHS), (0, 1))

    def test_as_fractions_are(self):
        for one in some_sums():
            self.assertEqual(worth(one, LENGTHS), reckoned(one, LENGTHS))

    def test_a_letter_left_out_is_refused(self):
        for left_out in (A, B, C):
            lengths = {pair: part for pair, part in LENGTHS.items() if pair != left_out}
            with self.assertRaises(NoLetter):
                worth([(((A, 1),), 1), (((B, -1), (C, 1)), 1)], lengths)
        with self.assertRaises(NoLetter):
            worth(letter(0, 2), {})
        with self.assertRaises(NoLetter):
            worth([(((A, -1),), 1)], {(2, 0): (1, 1)})

    def test_letters_that_the_sum_does_not_have(self):
        more = {(5, 7): (1, 9), (0, 1): (4, 1)}
        more.update(LENGTHS)
        for one in some_sums():
            self.assertEqual(worth(one, more), worth(one, LENGTHS))

    def test_one_letter_with_several_powers(self):
        powers = (-3, -1, 1, 4)
        one = [(((A, power), (B, -power)), power + 5) for power in powers]
        self.assertTrue(is_one_form(one))
        self.assertEqual(worth(one, LENGTHS), reckoned(one, LENGTHS))
        falling = [(((A, 1), (B, 3)), 1), (((A, 2), (B, 1)), 2), (((A, 3), (B, -1)), 3)]
        self.assertEqual(worth(falling, LENGTHS), reckoned(falling, LENGTHS))

    def test_powers_from_minus_1000_to_1000(self):
        for power in (1000, 999, 64, -64, -999, -1000):
            one = [(((A, power),), 1), (((B, -power),), -2)]
            self.assertEqual(worth(one, LENGTHS), reckoned(one, LENGTHS))

    def test_big_fractions(self):
        lengths = {A: (BIG, BIG + 1), B: (BIG + 2, 9)}
        one = [(((A, 3), (B, -2)), BIG), (((B, 5),), -1)]
        self.assertEqual(worth(one, lengths), reckoned(one, lengths))


class TestTexts(unittest.TestCase):
    def test_written(self):
        self.assertEqual(sum_text([]), "0")
        self.assertEqual(sum_text([((), 3)]), "3")
        self.assertEqual(sum_text([((), -3)]), "-3")
        self.assertEqual(sum_text(letter(0, 2)), "1 0.2^1")
        self.assertEqual(
            sum_text([((), 2), (((A, 1), (B, -2)), -1)]), "2 + -1 0.2^1 1.3^-2")

    def test_what_is_written_is_read(self):
        for one in some_sums() + [letter(9, 10), letter(0, BIG), [(((A, -BIG),), -BIG)]]:
            with self.subTest(sum_text(one)):
                told = sum_read(sum_text(one))
                self.assertEqual(told, one)
                self.assertTrue(is_one_form(told))

    def test_what_is_read_is_a_new_list(self):
        for text in ("0", "3"):
            told = sum_read(text)
            told.append(((), 1))
            self.assertNotEqual(sum_read(text), told)

    def refused(self, texts):
        for text in texts:
            with self.subTest(text):
                with self.assertRaises(BadSum):
                    sum_read(text)

    def test_terms_out_of_order_or_twice(self):
        self.refused([
            "3 + 3", "1 0.2^1 + 1 0.2^1", "1 0.2^1 + -1 0.2^1", "1 0.2^1 + 2",
            "1 1.3^1 + 1 0.2^1", "1 0.2^1 1.3^1 + 1 0.2^1", "1 0.2^1 + 1 0.2^-1",
            "1 2.10^1 + 1 2.9^1", "1 0.2^10 + 1 0.2^9", "1 + 1 0.2^1 + 1",
        ])

    def test_counts_and_powers_of_nought(self):
        self.refused([
            "0 + 1", "1 + 0", "0 + 0", "0 0.2^1", "1 + 0 0.2^1", "1 0.2^0",
            "-0", "1 0.2^-0", "1 0.2^1 1.3^0", "00",
        ])

    def test_letters_within_a_term(self):
        self.refused([
            "1 1.3^1 0.2^1", "1 0.2^1 0.2^1", "1 0.2^1 0.2^-1", "1 0.2^1 0.2^2",
            "1 2.2^1", "1 2.0^1", "1 10.9^1", "1 -1.2^1", "1 -2.-1^1", "1 0.-2^1", "1 -0.2^1",
        ])

    def test_blanks_and_signs_of_another_kind(self):
        self.refused([
            "", " ", "+", " + ", "-", "^", ".", "\n", "x", "1\n", "\n1", "0\n", " 0", "0 ",
            " 1", "1 ", "1  + 2 0.2^1", "1 +  2 0.2^1", "1  0.2^1", "1 0.2^1  1.3^1",
            "1 + ", " + 1", "1 +", "1+2 0.2^1", "1 +2 0.2^1", "1 + + 2 0.2^1", "1 - 2 0.2^1",
            "1\n+ 2 0.2^1", "1 0.2^1\n", "1 0.2^1 ", "+1", "1 0.2^+1", "0.2^1", "1 0.2", "1 0.2^",
            "1 0,2^1", "1 0.2*1", "1 02^1", "1 0.2.3^1", "1 0.2^1.3", "1 0.2^1^1", "1 .2^1",
            "1 0.^1", "1 ^1", "1 2 0.2^1", "1 0 .2^1", "--1", "1.0", "1/2", "1 a.b^1", "\u0661",
        ])

    def test_noughts_ahead_and_lines_between_figures(self):
        self.refused([
            "01", "-01", "1 00.2^1", "1 0.02^1", "1 0.2^01", "1 0.2^-01",
            "1_0", "1 0.1_0^1", "1 1_0.20^1", "1 0.2^1_0",
        ])

    def test_400_figures_are_read(self):
        nines = 10 ** 400 - 1
        for one in ([((), -nines)], [(((A, -nines),), nines)], letter(nines - 1, nines)):
            self.assertEqual(sum_read(sum_text(one)), one)

    def test_more_than_400_figures_are_refused(self):
        for many in (401, 4301, 5000):
            figures = "9" * many
            self.refused([
                figures, "-" + figures, "1 0.2^" + figures, "1 0.2^-" + figures,
                "1 0." + figures + "^1", "1 " + figures + ".2^1", "1 + " + figures + " 0.2^1",
            ])

    def test_4000_figures_are_written(self):
        many = 10 ** 3999
        figures = "1" + "0" * 3999
        self.assertEqual(sum_text([(((A, many),), -many)]), "-" + figures + " 0.2^" + figures)


if __name__ == "__main__":
    unittest.main()

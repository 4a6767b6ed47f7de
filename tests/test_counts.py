"""Points 1 and 11: how many cuttings there are, and their numbers."""

import unittest

from postmead.counts import cutting_at, how_many, number_of
from postmead.errors import NoNumber
from tests.cuttings import FAR, SOME, all_cuttings, ring_sides

COUNTS = {
    3: 1, 4: 2, 5: 5, 6: 14, 7: 42, 8: 132, 9: 429, 10: 1430, 11: 4862, 12: 16796,
}


def place(tied, low, high):
    """What a part is put in order by: its middle post, its lower part, its upper part."""
    if high - low <= 2:
        return ()
    (middle,) = [
        post for post in range(low + 1, high) if {(low, post), (post, high)} <= tied]
    return (middle, place(tied, low, middle), place(tied, middle, high))


def place_of(n, cut):
    return place(set(ring_sides(n) + cut), 0, n - 1)


class TestHowMany(unittest.TestCase):
    def test_three_to_twelve_posts(self):
        for n, count in COUNTS.items():
            with self.subTest(n):
                self.assertEqual(how_many(n), count)

    def test_as_many_as_trial_finds(self):
        for n in range(3, 8):
            self.assertEqual(how_many(n), len(all_cuttings(n)))


class TestOrder(unittest.TestCase):
    def test_four_posts(self):
        self.assertEqual([cutting_at(4, k) for k in range(2)], [[(1, 3)], [(0, 2)]])

    def test_five_posts(self):
        self.assertEqual([cutting_at(5, k) for k in range(5)], [
            [(1, 4), (2, 4)],
            [(1, 3), (1, 4)],
            [(0, 2), (2, 4)],
            [(0, 3), (1, 3)],
            [(0, 2), (0, 3)],
        ])

    def test_part_by_part(self):
        for n in range(3, 9):
            cuttings = [cutting_at(n, k) for k in range(how_many(n))]
            self.assertEqual(cuttings, sorted(cuttings, key=lambda cut: place_of(n, cut)))

    def test_parts_of_twelve_posts(self):
        places = [place_of(12, cutting_at(12, k)) for k in range(0, how_many(12), 41)]
        self.assertEqual(places, sorted(places))

    def test_the_first_and_the_last(self):
        for n in range(3, 13):
            first = [(post, n - 1) for post in range(1, n - 2)]
            last = [(0, post) for post in range(2, n - 1)]
            self.assertEqual(cutting_at(n, 0), first)
            self.assertEqual(cutting_at(n, how_many(n) - 1), last)
            self.assertEqual(number_of(n, first), 0)
            self.assertEqual(number_of(n, last), how_many(n) - 1)


class TestNumbers(unittest.TestCase):
    def test_every_cutting_has_a_number_and_every_number_a_cutting(self):
        for n in range(3, 8):
            cuttings = all_cuttings(n)
            numbers = [number_of(n, cut) for cut in cuttings]
            self.assertEqual(sorted(numbers), list(range(len(cuttings))))
            self.assertEqual([cutting_at(n, number) for number in numbers], cuttings)

    def test_the_number_of_the_cutting_of_a_number(self):
        for n in range(3, 13):
            numbers = list(range(how_many(n)))
            cuttings = [cutting_at(n, number) for number in numbers]
            self.assertEqual([number_of(n, cut) for cut in cuttings], numbers)
            self.assertEqual(len({tuple(cut) for cut in cuttings}), len(numbers))
            self.assertEqual([cut for cut in cuttings if cut != sorted(cut)], [])

    def test_some_cuttings(self):
        for n, cut in SOME:
            with self.subTest(n, cut=cut):
                self.assertEqual(cutting_at(n, number_of(n, cut)), cut)

    def test_numbers_that_no_cutting_has(self):
        for n in range(3, 13):
            count = how_many(n)
            for number in (-1, -2, -count, count, count + 1, 10 ** 30, FAR, -FAR):
                with self.assertRaises(NoNumber):
                    cutting_at(n, number)

    def test_no_error_somewhat_beyond_the_bounds(self):
        for n in (-1, 0, 1, 2, 13, 14):
            with self.subTest(n):
                cut = cutting_at(n, how_many(n) - 1)
                self.assertEqual(number_of(n, cut), how_many(n) - 1)
                with self.assertRaises(NoNumber):
                    cutting_at(n, how_many(n))

    def test_lists_are_not_kept(self):
        handed = [(0, 2), (0, 3)]
        self.assertEqual(number_of(5, handed), 4)
        self.assertEqual(handed, [(0, 2), (0, 3)])
        cutting_at(5, 4).clear()
        self.assertEqual(cutting_at(5, 4), [(0, 2), (0, 3)])
        cutting_at(3, 0).append((0, 2))
        self.assertEqual(cutting_at(3, 0), [])


if __name__ == "__main__":
    unittest.main()

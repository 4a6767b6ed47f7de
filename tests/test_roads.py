"""Points 1 and 12: roads to a fan, and from cutting to cutting."""

import unittest

from postmead.errors import NoPost
from postmead.roads import road, to_fan
from tests.cuttings import FAR, SOME, all_cuttings, fan, flipped


def not_at(post, cut):
    return len([rope for rope in cut if post not in rope])


class TestRoads(unittest.TestCase):
    def leads(self, n, cut, ropes, end):
        """Walks the road turning by turning, apart from the program."""
        self.assertIs(type(ropes), list)
        for rope in ropes:
            self.assertIs(type(rope), tuple)
            self.assertIn(rope, cut)
            cut = flipped(n, cut, rope)
        self.assertEqual(cut, end)


class TestToFan(TestRoads):
    def walked(self, n, cut, post):
        handed = list(cut)
        told = to_fan(n, handed, post)
        self.assertEqual(handed, cut)
        self.assertEqual(len(told), not_at(post, cut))
        self.leads(n, cut, told, fan(n, post))

    def test_small_ones(self):
        self.assertEqual(to_fan(4, [(0, 2)], 1), [(0, 2)])
        self.assertEqual(to_fan(4, [(0, 2)], 0), [])
        self.assertEqual(to_fan(5, [(1, 3), (1, 4)], 0), [(1, 4), (1, 3)])

    def test_all_cuttings_of_few_posts(self):
        for n in range(3, 7):
            for cut in all_cuttings(n):
                for post in range(n):
                    self.walked(n, cut, post)

    def test_some_cuttings(self):
        for n, cut in SOME:
            for post in range(n):
                self.walked(n, cut, post)

    def test_nothing_to_be_turned(self):
        for n in range(3, 13):
            for post in (0, 1, n - 1):
                self.assertEqual(to_fan(n, fan(n, post), post), [])
        for post in range(3):
            self.assertEqual(to_fan(3, [], post), [])

    def test_a_post_that_is_not_there(self):
        for n, cut in SOME:
            for post in (n, n + 1, -1, -n, FAR, -FAR):
                with self.assertRaises(NoPost):
                    to_fan(n, cut, post)

    def test_a_new_list_each_time(self):
        to_fan(4, [(0, 2)], 1).clear()
        self.assertEqual(to_fan(4, [(0, 2)], 1), [(0, 2)])
        to_fan(3, [], 1).append((0, 2))
        self.assertEqual(to_fan(3, [], 1), [])


class TestRoad(TestRoads):
    def walked(self, n, one, other):
        handed, handed_other = list(one), list(other)
        told = road(n, handed, handed_other)
        self.assertEqual((handed, handed_other), (one, other))
        self.leads(n, one, told, other)
        for post in range(n):
            self.assertLessEqual(len(told), not_at(post, one) + not_at(post, other))

    def test_small_ones(self):
        self.assertEqual(road(4, [(0, 2)], [(1, 3)]), [(0, 2)])
        self.assertEqual(road(5, [(0, 2), (0, 3)], [(0, 2), (2, 4)]), [(0, 3)])

    def test_all_cuttings_of_few_posts(self):
        for n in range(3, 7):
            for one in all_cuttings(n):
                for other in all_cuttings(n):
                    self.walked(n, one, other)

    def test_some_cuttings_both_ways(self):
        for n, cut in SOME:
            for post in range(n):
                self.walked(n, cut, fan(n, post))
                self.walked(n, fan(n, post), cut)

    def test_between_some_cuttings_and_the_same_ones_shifted(self):
        for n, cut in SOME:
            for by in range(1, n):
                ropes = [((a + by) % n, (b + by) % n) for a, b in cut]
                self.walked(n, cut, sorted((min(rope), max(rope)) for rope in ropes))

    def test_no_error_somewhat_beyond_the_bounds(self):
        for n in (-1, 0, 1, 2):
            self.assertEqual(road(n, [], []), [])
        for n in (13, 14):
            self.walked(n, fan(n, 0), fan(n, 5))

    def test_empty_where_the_two_are_the_same(self):
        for n, cut in SOME:
            self.assertEqual(road(n, cut, list(cut)), [])
            self.assertEqual(road(n, cut, cut), [])

    def test_a_new_list_each_time(self):
        one, other = [(0, 2)], [(1, 3)]
        road(4, one, other).clear()
        road(4, one, list(one)).append((0, 2))
        self.assertEqual((one, other), ([(0, 2)], [(1, 3)]))
        self.assertEqual(road(4, one, other), [(0, 2)])
        self.assertEqual(road(4, one, one), [])


if __name__ == "__main__":
    unittest.main()

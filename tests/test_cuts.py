"""Points 1 and 7 to 10: cuttings, their ties and plots, and turning a rope."""

import unittest
from itertools import combinations, permutations, product

from postmead.cuts import beside, crosses, kept, plots, ties, turned
from postmead.errors import NoCutting, NoRope
from tests.cuttings import (
    FAR, SOME, all_cuttings, apart, flipped, ring_ropes, ring_sides)


def each_way(one, other):
    """The two pairs in each order, each with its posts in each order."""
    for first, second in ((one, other), (other, one)):
        for left, right in product((first, first[::-1]), (second, second[::-1])):
            yield left, right


class TestCrosses(unittest.TestCase):
    def told_each_way(self, one, other, expected):
        for left, right in each_way(one, other):
            with self.subTest(left, other=right):
                self.assertIs(crosses(left, right), expected)

    def test_pairs_that_cross(self):
        self.told_each_way((0, 2), (1, 3), True)
        self.told_each_way((0, 5), (4, 6), True)
        self.told_each_way((2, 7), (0, 3), True)

    def test_pairs_side_by_side_and_one_within_the_other(self):
        self.told_each_way((0, 1), (2, 3), False)
        self.told_each_way((0, 3), (1, 2), False)
        self.told_each_way((4, 6), (0, 9), False)

    def test_a_post_in_common(self):
        self.told_each_way((0, 2), (2, 4), False)
        self.told_each_way((0, 2), (0, 4), False)
        self.told_each_way((1, 4), (2, 4), False)
        self.told_each_way((0, 4), (2, 4), False)

    def test_the_same_pair_twice(self):
        self.told_each_way((0, 2), (0, 2), False)

    def test_numbers_of_seven_figures_and_more(self):
        self.told_each_way((1000000, 3000000), (2000000, 4000000), True)
        self.told_each_way((1000000, 4000000), (2000000, 3000000), False)
        self.told_each_way((0, 9999999), (9999998, 10000000), True)
        self.told_each_way((0, FAR), (1, FAR + 1), True)
        self.told_each_way((0, FAR), (FAR, FAR + 1), False)

    def test_all_pairs_of_seven_posts(self):
        for one, other in product(list(combinations(range(7), 2)), repeat=2):
            self.told_each_way(one, other, not apart(one, other))


class TestKept(unittest.TestCase):
    def refused(self, n, ropes):
        with self.assertRaises(NoCutting):
            kept(n, ropes)

    def test_three_posts_and_no_ropes(self):
        self.assertEqual(kept(3, []), [])

    def test_some_cuttings(self):
        for n, cut in SOME:
            with self.subTest(n, cut=cut):
                self.assertEqual(kept(n, cut), cut)

    def test_pairs_in_any_order_with_either_post_first(self):
        cut = [(0, 2), (0, 4), (2, 4)]
        for ropes in permutations(cut):
            for ways in product((1, -1), repeat=3):
                handed = [rope[::way] for rope, way in zip(ropes, ways)]
                self.assertEqual(kept(6, handed), cut)

    def test_twelve_posts(self):
        ropes = [(post, 6) for post in (11, 10, 9, 8, 0, 1, 2, 3, 4)]
        cut = [(0, 6), (1, 6), (2, 6), (3, 6), (4, 6), (6, 8), (6, 9), (6, 10), (6, 11)]
        self.assertEqual(kept(12, ropes), cut)

    def test_just_the_cuttings_are_kept(self):
        for n in (4, 5, 6):
            cuttings = all_cuttings(n)
            for ropes in combinations(list(combinations(range(n), 2)), n - 3):
                if list(ropes) in cuttings:
                    self.assertEqual(kept(n, list(ropes)), list(ropes))
                else:
                    self.refused(n, list(ropes))

    def test_numbers_of_posts_out_of_bounds(self):
        for n in (2, 1, 0, -1, -3, FAR, -FAR):
            self.refused(n, [])
        for n in (13, 14, 100):
            self.refused(n, [(0, post) for post in range(2, n - 1)])
            self.refused(n, [])
        self.refused(2, [(0, 1)])
        self.refused(FAR, [(0, 2)])

    def test_too_few_or_too_many_pairs(self):
        self.refused(3, [(0, 2)])
        self.refused(3, [(1, 2)])
        self.refused(4, [])
        self.refused(4, [(0, 2), (1, 3)])
        self.refused(5, [(0, 2)])
        self.refused(5, [(0, 2), (0, 3), (2, 4)])
        self.refused(12, [])

    def test_a_pair_twice(self):
        self.refused(5, [(0, 2), (0, 2)])
        self.refused(5, [(0, 2), (2, 0)])
        self.refused(4, [(0, 2), (2, 0)])
        self.refused(6, [(0, 2), (0, 3), (3, 0)])
        self.refused(5, [(0, 2), (0, 3), (0, 3)])

    def test_a_side(self):
        self.refused(4, [(0, 1)])
        self.refused(4, [(3, 2)])
        self.refused(4, [(0, 3)])
        self.refused(4, [(3, 0)])
        self.refused(5, [(0, 2), (0, 4)])
        self.refused(5, [(0, 2), (2, 3)])
        self.refused(12, [(0, post) for post in range(3, 12)])

    def test_a_pair_of_one_post(self):
        self.refused(4, [(0, 0)])
        self.refused(4, [(2, 2)])
        self.refused(5, [(0, 2), (2, 2)])

    def test_a_post_that_is_not_there(self):
        for post in (4, 5, -1, -2, FAR, -FAR):
            self.refused(4, [(0, post)])
            self.refused(4, [(post, 1)])
            self.refused(4, [(2, post)])
            self.refused(5, [(0, 2), (2, post + 1)])
        self.refused(4, [(-3, -1)])
        self.refused(4, [(4, 6)])
        self.refused(4, [(FAR, FAR + 2)])

    def test_two_ropes_that_cross(self):
        self.refused(5, [(0, 2), (1, 3)])
        self.refused(5, [(3, 1), (2, 0)])
        self.refused(6, [(0, 3), (1, 4), (2, 5)])
        self.refused(6, [(0, 2), (0, 3), (1, 4)])

    def test_the_handed_list_stays_and_is_not_kept(self):
        handed = [(4, 2), (0, 2), (4, 0)]
        cut = kept(6, handed)
        self.assertEqual(handed, [(4, 2), (0, 2), (4, 0)])
        cut.append((9, 9))
        self.assertEqual(handed, [(4, 2), (0, 2), (4, 0)])
        handed.clear()
        self.assertEqual(cut, [(0, 2), (0, 4), (2, 4), (9, 9)])
        rising = [(0, 2), (0, 4), (2, 4)]
        kept(6, rising).clear()
        self.assertEqual(rising, [(0, 2), (0, 4), (2, 4)])
        self.assertEqual(kept(6, rising), [(0, 2), (0, 4), (2, 4)])


class TestTies(unittest.TestCase):
    def test_small_ones(self):
        self.assertEqual(ties(3, []), [(0, 1), (0, 2), (1, 2)])
        self.assertEqual(ties(4, [(1, 3)]), [(0, 1), (0, 3), (1, 2), (1, 3), (2, 3)])

    def test_sides_and_ropes_rising(self):
        for n, cut in SOME:
            with self.subTest(n, cut=cut):
                told = ties(n, cut)
                self.assertEqual(told, sorted(ring_sides(n) + cut))
                self.assertEqual(len(told), 2 * n - 3)

    def test_a_new_list_each_time(self):
        for n, cut in ((3, []), (5, [(0, 2), (0, 3)])):
            handed = list(cut)
            expected = ties(n, handed)
            ties(n, handed).clear()
            self.assertEqual(handed, cut)
            self.assertEqual(ties(n, handed), expected)


class TestPlots(unittest.TestCase):
    def test_small_ones(self):
        self.assertEqual(plots(3, []), [(0, 1, 2)])
        self.assertEqual(plots(4, [(0, 2)]), [(0, 1, 2), (0, 2, 3)])
        self.assertEqual(plots(4, [(1, 3)]), [(0, 1, 3), (1, 2, 3)])
        self.assertEqual(
            plots(6, [(0, 2), (0, 4), (2, 4)]), [(0, 1, 2), (0, 2, 4), (0, 4, 5), (2, 3, 4)])

    def test_three_tied_posts_each_and_as_many_as_told(self):
        for n, cut in SOME:
            with self.subTest(n, cut=cut):
                told = plots(n, cut)
                tied = sorted(ring_sides(n) + cut)
                self.assertEqual(len(told), n - 2)
                self.assertEqual(told, sorted(set(told)))
                for plot in told:
                    self.assertIs(type(plot), tuple)
                    self.assertEqual(list(plot), sorted(set(plot)))
                    self.assertEqual([p for p in combinations(plot, 2) if p not in tied], [])

    def test_each_side_is_of_one_plot_and_each_rope_of_two(self):
        for n, cut in SOME:
            used = [pair for plot in plots(n, cut) for pair in combinations(plot, 2)]
            for side in ring_sides(n):
                self.assertEqual(used.count(side), 1)
            for rope in cut:
                self.assertEqual(used.count(rope), 2)

    def test_a_new_list_each_time(self):
        handed = [(0, 2), (0, 3)]
        plots(5, handed).clear()
        self.assertEqual(handed, [(0, 2), (0, 3)])
        self.assertEqual(plots(5, handed), [(0, 1, 2), (0, 2, 3), (0, 3, 4)])


class TestBeside(unittest.TestCase):
    def refused(self, n, cut, a, b):
        for one, other in ((a, b), (b, a)):
            with self.assertRaises(NoRope):
                beside(n, cut, one, other)

    def test_sides(self):
        self.assertEqual(beside(3, [], 0, 1), [2])
        self.assertEqual(beside(3, [], 2, 0), [1])
        self.assertEqual(beside(5, [(0, 2), (0, 3)], 4, 0), [3])
        self.assertEqual(beside(5, [(0, 2), (0, 3)], 2, 3), [0])

    def test_ropes(self):
        self.assertEqual(beside(4, [(0, 2)], 0, 2), [1, 3])
        self.assertEqual(beside(4, [(1, 3)], 3, 1), [0, 2])
        self.assertEqual(beside(6, [(0, 2), (0, 4), (2, 4)], 4, 0), [2, 5])

    def test_each_tie_of_some_cuttings_its_posts_in_either_order(self):
        for n, cut in SOME:
            for a, b in ring_sides(n) + cut:
                expected = sorted([
                    post
                    for plot in plots(n, cut)
                    if a in plot and b in plot
                    for post in plot
                    if post not in (a, b)
                ])
                self.assertEqual(len(expected), 2 if (a, b) in cut else 1)
                self.assertEqual(beside(n, cut, a, b), expected)
                self.assertEqual(beside(n, cut, b, a), expected)

    def test_no_tie(self):
        for n, cut in SOME:
            for a, b in ring_ropes(n):
                if (a, b) not in cut:
                    self.refused(n, cut, a, b)

    def test_one_number_twice(self):
        for n, cut in SOME:
            for post in (0, 1, n - 1, n, -1, FAR):
                self.refused(n, cut, post, post)

    def test_posts_that_are_not_there(self):
        for n, cut in SOME:
            for post in (n, n + 1, -1, -2, -n, FAR, -FAR):
                self.refused(n, cut, 0, post)
                self.refused(n, cut, n - 1, post)
                self.refused(n, cut, post, post + 1)
                self.refused(n, cut, post, post - 2)

    def test_the_handed_list_stays(self):
        handed = [(0, 2), (0, 3)]
        told = beside(5, handed, 0, 2)
        told.clear()
        self.assertEqual(handed, [(0, 2), (0, 3)])
        self.assertEqual(beside(5, handed, 0, 2), [1, 3])


class TestTurned(unittest.TestCase):
    def refused(self, n, cut, a, b):
        handed = list(cut)
        for one, other in ((a, b), (b, a)):
            with self.assertRaises(NoRope):
                turned(n, handed, one, other)
        self.assertEqual(handed, cut)

    def test_small_ones(self):
        self.assertEqual(turned(4, [(0, 2)], 0, 2), [(1, 3)])
        self.assertEqual(turned(4, [(1, 3)], 3, 1), [(0, 2)])
        self.assertEqual(turned(5, [(0, 2), (0, 3)], 0, 2), [(0, 3), (1, 3)])
        self.assertEqual(turned(5, [(0, 2), (0, 3)], 3, 0), [(0, 2), (2, 4)])
        self.assertEqual(
            turned(6, [(0, 2), (0, 4), (2, 4)], 2, 4), [(0, 2), (0, 3), (0, 4)])

    def test_each_rope_of_some_cuttings(self):
        for n, cut in SOME:
            for a, b in cut:
                expected = flipped(n, cut, (a, b))
                self.assertEqual(turned(n, cut, a, b), expected)
                self.assertEqual(turned(n, cut, b, a), expected)

    def test_turning_the_new_rope_leads_back(self):
        for n, cut in SOME:
            for rope in cut:
                behind = turned(n, cut, *rope)
                ((c, d),) = [new for new in behind if new not in cut]
                self.assertEqual(turned(n, behind, c, d), cut)

    def test_a_side(self):
        for n, cut in SOME:
            for a, b in ring_sides(n):
                self.refused(n, cut, a, b)

    def test_no_tie(self):
        for n, cut in SOME:
            for a, b in ring_ropes(n):
                if (a, b) not in cut:
                    self.refused(n, cut, a, b)

    def test_one_number_twice_and_posts_that_are_not_there(self):
        for n, cut in SOME:
            for post in (n, n + 1, -1, -2, -n, FAR, -FAR):
                self.refused(n, cut, post, post)
                self.refused(n, cut, 0, post)
                self.refused(n, cut, 2, post)
                self.refused(n, cut, post, post + 2)
            self.refused(n, cut, 0, 0)

    def test_the_handed_list_stays(self):
        handed = [(0, 2), (0, 3)]
        told = turned(5, handed, 0, 2)
        self.assertEqual(handed, [(0, 2), (0, 3)])
        told.clear()
        self.assertEqual(handed, [(0, 2), (0, 3)])
        self.assertEqual(turned(5, handed, 0, 2), [(0, 3), (1, 3)])


if __name__ == "__main__":
    unittest.main()

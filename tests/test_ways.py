"""Points 1 and 13 to 15: ways from post to post, and their letter sums."""

import unittest
from itertools import combinations, permutations

from postmead.errors import NoPost
from postmead.sums import letter, sum_plus, sum_read, sum_text, sum_times, worth
from postmead.ways import told, ways
from tests.cuttings import FAR, all_cuttings, apart
from tests.measures import CUTTINGS, ZIGZAGS, all_lengths, all_ties, ones


def tie_of(a, b):
    return (min(a, b), max(a, b))


def ties_along(way):
    return [tie_of(a, b) for a, b in zip(way, way[1:])]


def crossed(n, cut, a, b):
    """The ropes that cross (a, b), each with its u and w of point 13."""
    found = {}
    for rope in cut:
        if not apart(rope, tie_of(a, b)):
            u, w = sorted((post - a) % n for post in rope)
            found[rope] = (u, w)
    return found


def is_nearer(one, other):
    """Whether the rope of (u, w) `one` is crossed nearer to a than that of `other`."""
    return one != other and one[0] <= other[0] and one[1] >= other[1]


def is_way(n, cut, a, b, way):
    """What point 13 asks of a way, word by word."""
    steps = ties_along(way)
    crossing = crossed(n, cut, a, b)
    used = [crossing[tie] for tie in steps if tie in crossing]
    return (
        way[0] == a
        and way[-1] == b
        and all(tie in all_ties(n, cut) for tie in steps)
        and len(steps) % 2 == 1
        and len(set(steps)) == len(steps)
        and all(tie in crossing for tie in steps[1::2])
        and not any(is_nearer(later, sooner) for sooner, later in combinations(used, 2))
    )


def rows_from(n, cut, a):
    """All rows of posts from a that go along ties, none twice."""
    tied = all_ties(n, cut)
    rows = begun = [(a,)]
    while begun:
        begun = [
            row + (post,)
            for row in begun
            for post in range(n)
            if tie_of(row[-1], post) in tied and tie_of(row[-1], post) not in ties_along(row)
        ]
        rows = rows + begun
    return rows


class TestWays(unittest.TestCase):
    def test_small_ones(self):
        self.assertEqual(ways(4, [(0, 2)], 1, 3), [(1, 0, 2, 3), (1, 2, 0, 3)])
        self.assertEqual(ways(4, [(0, 2)], 3, 1), [(3, 0, 2, 1), (3, 2, 0, 1)])
        self.assertEqual(ways(5, [(0, 2), (0, 3)], 1, 4), [
            (1, 0, 2, 3, 0, 4),
            (1, 0, 3, 4),
            (1, 2, 0, 4),
        ])

    def test_a_post_may_come_twice(self):
        self.assertIn((1, 0, 2, 3, 0, 4), ways(5, [(0, 2), (0, 3)], 1, 4))

    def test_a_tie_has_one_way(self):
        for n, cut in CUTTINGS:
            for a, b in all_ties(n, cut):
                self.assertEqual(ways(n, cut, a, b), [(a, b)])
                self.assertEqual(ways(n, cut, b, a), [(b, a)])

    def test_each_way_step_by_step(self):
        for n, cut in CUTTINGS:
            for a, b in permutations(range(n), 2):
                found = ways(n, cut, a, b)
                self.assertIs(type(found), list)
                self.assertEqual(found, sorted(set(found)))
                for way in found:
                    self.assertIs(type(way), tuple)
                    self.assertTrue(is_way(n, cut, a, b, way))

    def test_no_way_is_left_out(self):
        chosen = [(n, cut) for n in range(3, 7) for cut in all_cuttings(n)]
        for n, cut in chosen + [(7, cut) for cut in all_cuttings(7)[::9]]:
            for a in range(n):
                rows = rows_from(n, cut, a)
                for b in range(n):
                    if b != a:
                        ending = [row for row in rows if row[-1] == b]
                        whole = [row for row in ending if is_way(n, cut, a, b, row)]
                        self.assertEqual(ways(n, cut, a, b), sorted(whole))

    def test_as_many_ways_as_the_length_where_all_lengths_are_one(self):
        for n, cut in CUTTINGS + [(7, cut) for cut in all_cuttings(7)]:
            for (a, b), length in all_lengths(n, ones(n, cut)).items():
                self.assertEqual(len(ways(n, cut, a, b)), length)

    def test_many_ways_in_the_zigzag_of_twelve_posts(self):
        n, cut = ZIGZAGS[-1]
        self.assertEqual(n, 12)
        self.assertEqual(
            max(len(ways(n, cut, a, b)) for a, b in combinations(range(n), 2)), 89)

    def test_the_ways_back_are_the_ways_turned_about(self):
        for n, cut in CUTTINGS:
            for a, b in combinations(range(n), 2):
                back = sorted(way[::-1] for way in ways(n, cut, a, b))
                self.assertEqual(ways(n, cut, b, a), back)

    def test_the_cutting_stays_and_a_new_list_each_time(self):
        cut = [(0, 2), (0, 3)]
        first = ways(5, cut, 1, 4)
        kept = list(first)
        first.clear()
        self.assertEqual(cut, [(0, 2), (0, 3)])
        self.assertEqual(ways(5, cut, 1, 4), kept)

    def test_no_post(self):
        refused_by(self, ways)

    def test_no_error_somewhat_beyond_the_bounds(self):
        cut = [(0, post) for post in range(2, 13)]
        self.assertEqual(len(ways(14, cut, 1, 13)), 12)


def refused_by(case, function):
    """Tries what is refused with NoPost, whichever of the two posts it is."""
    for n, cut in CUTTINGS:
        for post in (0, 1, n - 1, n, -1, FAR, -FAR):
            with case.assertRaises(NoPost):
                function(n, cut, post, post)
        for post in (n, n + 1, 2 * n, -1, -2, -n, FAR, -FAR):
            for a, b in ((0, post), (post, 0), (n - 1, post), (post, n - 1), (post, -post)):
                with case.assertRaises(NoPost):
                    function(n, cut, a, b)


class TestTold(unittest.TestCase):
    def test_a_small_one(self):
        self.assertEqual(
            sum_text(told(4, [(0, 2)], 3, 1)),
            "1 0.1^1 0.2^-1 2.3^1 + 1 0.2^-1 0.3^1 1.2^1")

    def test_the_row_of_each_way_once(self):
        for n, cut in CUTTINGS:
            for a, b in combinations(range(n), 2):
                found = told(n, cut, a, b)
                rows = [
                    tuple(sorted(
                        (tie, (-1) ** place) for place, tie in enumerate(ties_along(way))))
                    for way in ways(n, cut, a, b)
                ]
                self.assertEqual(found, sorted((row, 1) for row in rows))
                self.assertEqual(len({row for row, _ in found}), len(rows))

    def test_the_one_form(self):
        for n, cut in CUTTINGS:
            for a, b in combinations(range(n), 2):
                found = told(n, cut, a, b)
                self.assertIs(type(found), list)
                self.assertEqual(found, sum_plus(found, []))
                self.assertEqual({count for _, count in found}, {1})
                powers = {power for row, _ in found for _, power in row}
                self.assertLessEqual(powers, {1, -1})
                letters = {tie for row, _ in found for tie, _ in row}
                self.assertLessEqual(letters, set(all_ties(n, cut)))

    def test_the_same_from_either_post(self):
        for n, cut in CUTTINGS:
            for a, b in combinations(range(n), 2):
                self.assertEqual(told(n, cut, a, b), told(n, cut, b, a))

    def test_a_tie_is_its_letter(self):
        for n, cut in CUTTINGS:
            for a, b in all_ties(n, cut):
                self.assertEqual(told(n, cut, a, b), letter(a, b))
                self.assertEqual(told(n, cut, b, a), letter(a, b))

    def test_written_and_read(self):
        for n, cut in CUTTINGS:
            for a, b in combinations(range(n), 2):
                found = told(n, cut, a, b)
                self.assertEqual(sum_read(sum_text(found)), found)

    def test_worth_under_ones_is_the_number_of_ways(self):
        for n, cut in CUTTINGS:
            for a, b in combinations(range(n), 2):
                self.assertEqual(
                    worth(told(n, cut, a, b), ones(n, cut)), (len(ways(n, cut, a, b)), 1))

    def test_the_cutting_stays_and_a_new_list_each_time(self):
        cut = [(0, 2), (0, 3)]
        first = told(5, cut, 1, 4)
        kept = list(first)
        first.append("more")
        self.assertEqual(cut, [(0, 2), (0, 3)])
        self.assertEqual(told(5, cut, 4, 1), kept)
        told(5, cut, 0, 1).clear()
        self.assertEqual(told(5, cut, 0, 1), letter(0, 1))

    def test_no_post(self):
        refused_by(self, told)


class TestRuleOfFour(unittest.TestCase):
    def keeps_rule(self, n, cut):
        sums = {pair: told(n, cut, *pair) for pair in combinations(range(n), 2)}
        for a, b, c, d in combinations(range(n), 4):
            self.assertEqual(
                sum_times(sums[a, c], sums[b, d]),
                sum_plus(
                    sum_times(sums[a, b], sums[c, d]), sum_times(sums[b, c], sums[a, d])))

    def test_all_cuttings_of_few_posts(self):
        for n in range(4, 7):
            for cut in all_cuttings(n):
                self.keeps_rule(n, cut)

    def test_several_cuttings(self):
        for n, cut in CUTTINGS:
            self.keeps_rule(n, cut)


if __name__ == "__main__":
    unittest.main()

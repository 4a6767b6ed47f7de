"""Points 1 and 16: lengths between posts, through turnings, and their table."""

import unittest
from fractions import Fraction
from itertools import combinations

from postmead.cuts import turned
from postmead.errors import MeadError, NoPost, NoRope
from postmead.lengths import laid, measured, table
from postmead.sums import worth
from postmead.ways import told
from tests.cuttings import FAR, all_cuttings, flipped, ring_ropes, ring_sides
from tests.measures import CUTTINGS, all_table, all_ties, ones, parts, some_lengths

LONG = 10 ** 401


def long_lengths(n, cut):
    """Lengths with tops and bottoms of many figures."""
    return {
        (a, b): parts(Fraction(LONG * (a + 1) + 1, LONG * (b + 2) + a))
        for a, b in all_ties(n, cut)
    }


def cases():
    for n, cut in CUTTINGS:
        for turn in range(2):
            yield n, cut, some_lengths(n, cut, turn)
    for n in range(3, 7):
        for cut in all_cuttings(n):
            yield n, cut, some_lengths(n, cut, 3)


class TestMeasured(unittest.TestCase):
    def test_small_ones(self):
        square = {(0, 1): (1, 1), (1, 2): (2, 1), (2, 3): (3, 1), (0, 3): (4, 1), (0, 2): (5, 2)}
        self.assertEqual(measured(4, [(0, 2)], square, 1, 3), (22, 5))
        self.assertEqual(measured(4, [(0, 2)], square, 3, 1), (22, 5))
        self.assertEqual(measured(4, [(0, 2)], square, 2, 0), (5, 2))

    def test_the_worth_of_the_told_sum(self):
        for n, cut, lengths in cases():
            for a, b in combinations(range(n), 2):
                length = worth(told(n, cut, a, b), lengths)
                self.assertEqual(measured(n, cut, lengths, a, b), length)
                self.assertEqual(measured(n, cut, lengths, b, a), length)

    def test_many_figures(self):
        for n, cut in CUTTINGS[:8]:
            lengths = long_lengths(n, cut)
            for a, b in combinations(range(n), 2):
                length = worth(told(n, cut, a, b), lengths)
                self.assertTrue(measured(n, cut, lengths, a, b) == length)

    def test_thousands_of_figures_and_twelve_posts(self):
        n, cut = CUTTINGS[-1]
        lengths = {
            (a, b): parts(Fraction(FAR + a, FAR * (b + 1) + 1)) for a, b in all_ties(n, cut)}
        length = measured(n, cut, lengths, 0, 3)
        self.assertTrue(length == worth(told(n, cut, 0, 3), lengths))

    def test_nothing_is_changed(self):
        for n, cut, lengths in cases():
            handed, handed_cut = dict(lengths), list(cut)
            for a, b in combinations(range(n), 2):
                measured(n, handed_cut, handed, a, b)
            self.assertEqual((handed, handed_cut), (lengths, cut))

    def test_no_post(self):
        for n, cut in CUTTINGS:
            lengths = ones(n, cut)
            for post in (0, n - 1, n, -1, FAR, -FAR):
                with self.assertRaises(NoPost):
                    measured(n, cut, lengths, post, post)
            for post in (n, n + 1, -1, -n, FAR, -FAR):
                for a, b in ((0, post), (post, 0), (post, n - 1), (post, -post)):
                    with self.assertRaises(NoPost):
                        measured(n, cut, lengths, a, b)


class TestLaid(unittest.TestCase):
    def test_a_small_one(self):
        square = {(0, 1): (1, 1), (1, 2): (2, 1), (2, 3): (3, 1), (0, 3): (4, 1), (0, 2): (5, 2)}
        told_lengths = laid(4, [(0, 2)], square, 2, 0)
        self.assertEqual(told_lengths, {
            (0, 1): (1, 1), (1, 2): (2, 1), (2, 3): (3, 1), (0, 3): (4, 1), (1, 3): (22, 5)})

    def test_the_ties_of_the_turned_cutting(self):
        for n, cut, lengths in cases():
            for a, b in cut:
                handed = dict(lengths)
                found = laid(n, cut, handed, a, b)
                self.assertEqual(handed, lengths)
                self.assertEqual(laid(n, cut, handed, b, a), found)
                after = flipped(n, cut, (a, b))
                self.assertEqual(sorted(found), all_ties(n, after))
                self.assertNotIn((a, b), found)
                for tie, length in found.items():
                    self.assertGreater(length[0], 0)
                    self.assertEqual(length, measured(n, cut, lengths, *tie))

    def test_the_same_is_measured_behind_it(self):
        for n, cut, lengths in cases():
            ahead = table(n, cut, lengths)
            for a, b in cut:
                behind = table(n, turned(n, cut, a, b), laid(n, cut, lengths, a, b))
                self.assertEqual(behind, ahead)

    def test_turning_back_leads_to_the_old_lengths(self):
        for n, cut, lengths in cases():
            for rope in cut:
                after = flipped(n, cut, rope)
                found = laid(n, cut, lengths, *rope)
                (new,) = set(after) - set(cut)
                self.assertEqual(laid(n, after, found, *new), lengths)

    def test_many_turnings_one_behind_the_other(self):
        n, cut = CUTTINGS[-1]
        lengths = some_lengths(n, cut)
        ahead = table(n, cut, lengths)
        for turning in range(30):
            rope = cut[turning * 5 % len(cut)]
            lengths = laid(n, cut, lengths, *rope)
            cut = turned(n, cut, *rope)
        self.assertEqual(table(n, cut, lengths), ahead)

    def test_many_figures(self):
        n, cut = CUTTINGS[7]
        lengths = long_lengths(n, cut)
        ahead = table(n, cut, lengths)
        for a, b in cut:
            found = laid(n, cut, lengths, a, b)
            self.assertTrue(table(n, turned(n, cut, a, b), found) == ahead)

    def test_no_rope_and_it_alone(self):
        for n, cut in CUTTINGS:
            lengths = ones(n, cut)
            no_ropes = ring_sides(n) + [rope for rope in ring_ropes(n) if rope not in cut]
            far = [(a, b) for a in (0, n, -1, FAR, -FAR) for b in (n, n + 1, -1, -n, FAR, -FAR)]
            same = [(post, post) for post in range(n)]
            for a, b in no_ropes + far + same:
                for one, other in ((a, b), (b, a)):
                    with self.assertRaises(MeadError) as caught:
                        laid(n, cut, lengths, one, other)
                    self.assertIs(type(caught.exception), NoRope)
                    self.assertEqual(lengths, ones(n, cut))

    def test_a_new_dict_each_time(self):
        lengths = ones(4, [(0, 2)])
        laid(4, [(0, 2)], lengths, 0, 2).clear()
        self.assertEqual(lengths, ones(4, [(0, 2)]))
        self.assertEqual(len(laid(4, [(0, 2)], lengths, 0, 2)), 5)


class TestTable(unittest.TestCase):
    def test_small_ones(self):
        lengths = {(0, 1): (1, 1), (1, 2): (2, 1), (0, 2): (1, 3)}
        self.assertEqual(table(3, [], lengths), [
            [(0, 1), (1, 1), (1, 3)],
            [(1, 1), (0, 1), (2, 1)],
            [(1, 3), (2, 1), (0, 1)],
        ])

    def test_lengths_by_the_rule_of_four(self):
        for n, cut, lengths in cases():
            self.assertEqual(table(n, cut, lengths), all_table(n, lengths))

    def test_what_is_measured(self):
        for n, cut in CUTTINGS:
            lengths = some_lengths(n, cut, 5)
            rows = table(n, cut, lengths)
            self.assertIs(type(rows), list)
            self.assertEqual([(type(row), len(row)) for row in rows], [(list, n)] * n)
            for a in range(n):
                self.assertEqual(rows[a][a], (0, 1))
                for b in range(n):
                    if a != b:
                        self.assertEqual(rows[a][b], measured(n, cut, lengths, a, b))
            for (a, b), length in lengths.items():
                self.assertEqual((rows[a][b], rows[b][a]), (length, length))

    def test_nothing_is_changed_and_rows_are_new(self):
        n, cut = CUTTINGS[6]
        lengths = some_lengths(n, cut)
        handed, handed_cut = dict(lengths), list(cut)
        rows = table(n, handed_cut, handed)
        for row in rows:
            row.clear()
        rows.clear()
        self.assertEqual((handed, handed_cut), (lengths, cut))
        self.assertEqual(table(n, cut, lengths), all_table(n, lengths))

    def test_a_row_is_no_other_row(self):
        rows = table(3, [], ones(3, []))
        rows[0][1] = "changed"
        rows[2].append("more")
        self.assertEqual(rows, [
            [(0, 1), "changed", (1, 1)],
            [(1, 1), (0, 1), (1, 1)],
            [(1, 1), (1, 1), (0, 1), "more"],
        ])


if __name__ == "__main__":
    unittest.main()

"""Points 1 and 17 to 19: tables, which of them are of some mead, and pairs."""

import unittest
from fractions import Fraction
from itertools import combinations

from postmead.errors import BadPairs, BadTable, NotMead
from postmead.lengths import table
from postmead.tables import broken, cut_lengths, looked, of_pairs, pairs
from tests.cuttings import FAR, all_cuttings
from tests.measures import CUTTINGS, all_table, all_ties, parts, some_lengths

EQUAL = [[(0, 1), (1, 1), (1, 1)], [(1, 1), (0, 1), (1, 1)], [(1, 1), (1, 1), (0, 1)]]
# All lengths one: each four posts break the rule of four.
EVEN = [[(0, 1) if a == b else (1, 1) for b in range(5)] for a in range(5)]


def good_tables():
    for n, cut in CUTTINGS:
        yield n, all_table(n, some_lengths(n, cut))


def copied(rows):
    return [list(row) for row in rows]


def longer(rows, a, b, by=Fraction(1)):
    """The table with the length between a and b made greater."""
    changed = copied(rows)
    changed[a][b] = changed[b][a] = parts(Fraction(*rows[a][b]) + by)
    return changed


def with_place(rows, a, b, value):
    changed = copied(rows)
    changed[a][b] = value
    return changed


def least_broken(rows):
    """The least four that break the rule of four, each four tried."""
    far = [[Fraction(*length) for length in row] for row in rows]
    for a, b, c, d in combinations(range(len(rows)), 4):
        if far[a][c] * far[b][d] != far[a][b] * far[c][d] + far[b][c] * far[a][d]:
            return (a, b, c, d)
    return None


def bad_tables():
    """What is no table, out of good tables."""
    yield []
    yield [[(0, 1)]]
    yield [[]]
    yield [[(0, 1), (1, 1)], [(1, 1), (0, 1)]]
    yield [[(0, 1) if a == b else (1, 1) for b in range(13)] for a in range(13)]
    yield [[], [], []]
    yield [[(0, 1)] * 3] * 3
    for n, rows in good_tables():
        yield rows[:-1]
        yield rows[1:]
        yield rows + [rows[0]]
        yield [row[1:] for row in rows]
        yield [row + [(0, 1)] for row in rows]
        yield [row[:-1] for row in rows]
        for post in (0, 1, n - 1):
            yield rows[:post] + [rows[post][:-1]] + rows[post + 1:]
            yield rows[:post] + [rows[post] + [(1, 1)]] + rows[post + 1:]
            yield rows[:post] + [[]] + rows[post + 1:]
            for value in ((1, 1), (-1, 1), (0, -1), (0, 2), (0, 0), (1, 0), (-1, 10 ** 30)):
                yield with_place(rows, post, post, value)
        for a, b in ((0, 1), (0, n - 1), (1, n - 1), (n - 2, n - 1), (n // 2, 0)):
            yield with_place(rows, a, b, (10 ** 30, 7))
            yield with_place(rows, b, a, (7, 10 ** 30))
            for value in (
                    (0, 1), (-1, 1), (2, 2), (-2, 4), (2, -1), (-2, -1), (1, 0), (0, 0),
                    (6, 4), (FAR, FAR), (-FAR, 1), (1, -FAR)):
                yield with_place(with_place(rows, a, b, value), b, a, value)
                yield with_place(rows, a, b, value)


class TestLooked(unittest.TestCase):
    def test_three_to_twelve_rows(self):
        seen = set()
        for n, rows in good_tables():
            self.assertEqual(looked(rows), n)
            seen.add(n)
        self.assertEqual(seen, set(range(3, 13)))

    def test_tables_that_break_the_rule(self):
        self.assertEqual(looked(EVEN), 5)
        self.assertEqual(looked(EQUAL), 3)
        rows = [[(0, 1) if a == b else (FAR + a * b, FAR + a * b + 1) for b in range(4)]
                for a in range(4)]
        self.assertEqual(looked(rows), 4)

    def test_bad_tables(self):
        for rows in bad_tables():
            handed = copied(rows)
            with self.assertRaises(BadTable):
                looked(rows)
            self.assertTrue(rows == handed)

    def test_refused_by_the_others_too(self):
        for rows in bad_tables():
            for function in (pairs, broken):
                with self.assertRaises(BadTable):
                    function(rows)
            for cut in ([], [(0, 2)], [(0, 2), (0, 3)], [(5, 70)], [(0, 1)] * 20, [(-1, FAR)]):
                with self.assertRaises(BadTable):
                    cut_lengths(rows, cut)


class TestBroken(unittest.TestCase):
    def test_small_ones(self):
        self.assertEqual(broken(EVEN), (0, 1, 2, 3))
        self.assertIsNone(broken(EQUAL))

    def test_three_rows_always_keep_it(self):
        for lengths in ((1, 1), (10 ** 30, 1), (1, FAR)):
            rows = longer(with_place(with_place(EQUAL, 0, 2, lengths), 2, 0, lengths), 0, 1)
            self.assertIsNone(broken(rows))

    def test_good_tables(self):
        for _, rows in good_tables():
            self.assertIsNone(broken(rows))

    def test_one_length_made_greater(self):
        for n, rows in good_tables():
            for a, b in combinations(range(n), 2):
                changed = longer(rows, a, b, Fraction(1, 10 ** 30))
                told = broken(changed)
                self.assertEqual(told, least_broken(changed))
                self.assertEqual(told is None, n == 3)

    def test_two_lengths_made_greater(self):
        for n, rows in list(good_tables())[:9]:
            pairs_of_posts = list(combinations(range(n), 2))
            for one, other in combinations(pairs_of_posts, 2):
                changed = longer(longer(rows, *one), *other, Fraction(3, 2))
                self.assertEqual(broken(changed), least_broken(changed))

    def test_lengths_of_the_last_posts(self):
        for n, rows in good_tables():
            if n > 3:
                changed = longer(rows, n - 2, n - 1)
                self.assertEqual(broken(changed), (0, 1, n - 2, n - 1))

    def test_the_table_stays(self):
        for rows in (EVEN, EQUAL):
            handed = copied(rows)
            broken(handed)
            looked(handed)
            self.assertEqual(handed, rows)


class TestCutLengths(unittest.TestCase):
    def test_a_good_table_is_that_of_its_lengths_for_every_cutting(self):
        for n in range(3, 8):
            rows = all_table(n, some_lengths(n, all_cuttings(n)[0], n))
            for cut in all_cuttings(n):
                lengths = cut_lengths(rows, cut)
                self.assertEqual(sorted(lengths), all_ties(n, cut))
                self.assertEqual(table(n, cut, lengths), rows)

    def test_the_lengths_that_a_table_is_made_of(self):
        for n, cut in CUTTINGS:
            lengths = some_lengths(n, cut)
            self.assertEqual(cut_lengths(table(n, cut, lengths), cut), lengths)

    def test_a_table_that_breaks_the_rule(self):
        rows = longer(EVEN, 1, 4)
        cut = [(1, 3), (1, 4)]
        self.assertEqual(cut_lengths(rows, cut), {
            (0, 1): (1, 1), (0, 4): (1, 1), (1, 2): (1, 1), (1, 3): (1, 1),
            (1, 4): (2, 1), (2, 3): (1, 1), (3, 4): (1, 1)})
        self.assertNotEqual(table(5, cut, cut_lengths(rows, cut)), rows)

    def test_three_rows(self):
        self.assertEqual(
            cut_lengths(longer(EQUAL, 0, 2), []),
            {(0, 1): (1, 1), (0, 2): (2, 1), (1, 2): (1, 1)})

    def test_the_table_stays_and_a_new_dict_each_time(self):
        handed, cut = copied(EQUAL), []
        cut_lengths(handed, cut).clear()
        self.assertEqual((handed, cut), (EQUAL, []))
        self.assertEqual(len(cut_lengths(handed, cut)), 3)


def spread(rows):
    """The table of the pairs, as point 19 tells it."""
    p = [Fraction(*one) for one, _ in rows]
    q = [Fraction(*other) for _, other in rows]
    n = len(rows)
    return [
        [parts(p[min(i, k)] * q[max(i, k)] - p[max(i, k)] * q[min(i, k)]) for k in range(n)]
        for i in range(n)
    ]


def rising_pairs(n):
    """Pairs whose every length is above nought: the q over the p rises."""
    return [(parts(Fraction(k + 2, 3)), parts(Fraction(k * k * k + 1, 2))) for k in range(n)]


class TestPairs(unittest.TestCase):
    def test_spread_they_give_the_table_again(self):
        for n, rows in good_tables():
            handed = copied(rows)
            found = pairs(handed)
            self.assertEqual(handed, rows)
            self.assertIs(type(found), list)
            self.assertEqual(len(found), n)
            for pair in found:
                self.assertIs(type(pair), tuple)
                self.assertEqual(len(pair), 2)
                for part in pair:
                    self.assertIs(type(part), tuple)
                    self.assertEqual(part, parts(Fraction(*part)))
            self.assertEqual(spread(found), rows)
            self.assertEqual(of_pairs(found), rows)

    def test_many_figures(self):
        rows = all_table(5, {
            tie: (10 ** 401 + tie[0], 10 ** 401 + tie[0] + 1)
            for tie in all_ties(5, [(0, 2), (2, 4)])})
        self.assertTrue(spread(pairs(rows)) == rows)

    def test_not_mead(self):
        for n, rows in good_tables():
            for a, b in ((0, 1), (0, n - 1), (1, n - 1), (n - 2, n - 1)):
                changed = longer(rows, a, b)
                if n > 3:
                    with self.assertRaises(NotMead) as caught:
                        pairs(changed)
                    self.assertEqual(caught.exception.four, least_broken(changed))
                    self.assertEqual(caught.exception.four, broken(changed))
                    self.assertIs(type(caught.exception.four), tuple)
                else:
                    self.assertEqual(spread(pairs(changed)), changed)

    def test_a_new_list_each_time(self):
        pairs(EQUAL).clear()
        self.assertEqual(spread(pairs(EQUAL)), EQUAL)


class TestOfPairs(unittest.TestCase):
    def test_three_to_twelve_pairs(self):
        for n in range(3, 13):
            rows = rising_pairs(n)
            handed = list(rows)
            found = of_pairs(handed)
            self.assertEqual(handed, rows)
            self.assertEqual(found, spread(rows))
            self.assertEqual(looked(found), n)
            self.assertIsNone(broken(found))

    def test_a_small_one(self):
        self.assertEqual(
            of_pairs([((1, 1), (0, 1)), ((1, 1), (1, 2)), ((0, 1), (1, 1))]),
            [
                [(0, 1), (1, 2), (1, 1)],
                [(1, 2), (0, 1), (1, 1)],
                [(1, 1), (1, 1), (0, 1)],
            ])

    def test_numbers_below_nought(self):
        rows = [((-1, 2), (0, 1)), ((-1, 1), (-1, 2)), ((0, 1), (-3, 1))]
        self.assertEqual(of_pairs(rows), spread(rows))

    def test_bad_pairs(self):
        nought, one, two = (0, 1), (1, 1), (2, 1)
        cases = [
            ([(one, nought), (two, nought), (nought, one)], (0, 1)),
            ([(one, nought), (nought, one), (nought, two)], (1, 2)),
            ([(nought, one), (one, nought), (one, one)], (0, 1)),
            ([(one, nought), (one, one), (one, (1, 2))], (1, 2)),
            ([(one, nought), (one, one), (two, nought)], (0, 2)),
            ([(nought, nought)] * 3, (0, 1)),
            ([(one, nought), (one, one), ((-1, 1), nought), (nought, nought)], (0, 2)),
        ]
        for rows, two_posts in cases:
            handed = list(rows)
            with self.assertRaises(BadPairs) as caught:
                of_pairs(handed)
            self.assertEqual(caught.exception.two, two_posts)
            self.assertIs(type(caught.exception.two), tuple)
            self.assertEqual(handed, rows)

    def test_the_least_two_of_several(self):
        for n in range(3, 13):
            for i, k in combinations(range(n), 2):
                rows = rising_pairs(n)
                rows[i], rows[k] = rows[k], rows[i]
                lengths = spread(rows)
                least = min(two for two in combinations(range(n), 2)
                            if lengths[two[0]][two[1]][0] <= 0)
                with self.assertRaises(BadPairs) as caught:
                    of_pairs(rows)
                self.assertEqual(caught.exception.two, least)

    def test_rows_are_new_and_each_its_own(self):
        handed = rising_pairs(4)
        found = of_pairs(handed)
        found[0][1] = "changed"
        found[2].clear()
        self.assertEqual(found[1], spread(handed)[1])
        self.assertEqual(handed, rising_pairs(4))
        self.assertEqual(of_pairs(handed), spread(handed))

    def test_many_figures(self):
        rows = [((1, FAR), (0, 1)), ((1, 1), (1, FAR + 1)), ((0, 1), (FAR, 1))]
        self.assertTrue(of_pairs(rows) == spread(rows))


if __name__ == "__main__":
    unittest.main()

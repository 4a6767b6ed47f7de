"""Points 1 and 20 to 23: ratios, turned ratios, stretched posts and likeness."""

import unittest
from fractions import Fraction
from itertools import combinations

from postmead.cuts import turned
from postmead.errors import MeadError, NoFraction, NoPost, NoRope
from postmead.lengths import laid, measured
from postmead.likeness import alike, ratio, ratios, stretched, stretches, turned_ratios
from tests.cuttings import FAR, all_cuttings, flipped, ring_ropes, ring_sides
from tests.measures import CUTTINGS, all_lengths, all_ties, ones, parts, some_lengths

SQUARE = {(0, 1): (1, 1), (0, 2): (5, 2), (0, 3): (4, 1), (1, 2): (2, 1), (2, 3): (3, 1)}


def cases():
    for n, cut in CUTTINGS:
        yield n, cut, some_lengths(n, cut, 1)
    for n in range(3, 7):
        for cut in all_cuttings(n):
            yield n, cut, some_lengths(n, cut, 2)


def ratio_from(n, cut, lengths, w0, w2):
    """The ratio of the rope by its four posts round the ring upward from w0."""
    def length(a, b):
        return Fraction(*lengths[min(a, b), max(a, b)])

    (new,) = set(flipped(n, cut, (min(w0, w2), max(w0, w2)))) - set(cut)
    w1, w3 = sorted(new, key=lambda post: (post - w0) % n)
    return parts(length(w0, w1) * length(w2, w3) / (length(w1, w2) * length(w3, w0)))


def no_ropes(n, cut):
    """Pairs that are no ropes of the cutting: sides, no ties, posts not there, one twice."""
    far = [(a, b) for a in (0, 1, n, -1, FAR, -FAR) for b in (n, n + 1, -1, -n, FAR, -FAR)]
    same = [(post, post) for post in range(n)]
    laid_by_none = [rope for rope in ring_ropes(n) if rope not in cut]
    for a, b in ring_sides(n) + laid_by_none + far + same:
        yield a, b
        yield b, a


class TestRatio(unittest.TestCase):
    def test_a_small_one(self):
        # The posts round rope (0, 2) are 0, 1, 2, 3: 1 times 3 over 2 times 4.
        self.assertEqual(ratio(4, [(0, 2)], SQUARE, 0, 2), (3, 8))
        self.assertEqual(ratio(4, [(0, 2)], SQUARE, 2, 0), (3, 8))
        self.assertEqual(ratios(4, [(0, 2)], SQUARE), {(0, 2): (3, 8)})

    def test_from_either_end(self):
        for n, cut, lengths in cases():
            for a, b in cut:
                expected = ratio_from(n, cut, lengths, a, b)
                self.assertEqual(ratio_from(n, cut, lengths, b, a), expected)
                self.assertEqual(ratio(n, cut, lengths, a, b), expected)
                self.assertEqual(ratio(n, cut, lengths, b, a), expected)

    def test_ratios_of_just_the_ropes(self):
        for n, cut, lengths in cases():
            handed, handed_cut = dict(lengths), list(cut)
            found = ratios(n, handed_cut, handed)
            self.assertEqual((handed, handed_cut), (lengths, cut))
            self.assertEqual(sorted(found), cut)
            for rope in cut:
                self.assertEqual(found[rope], ratio(n, cut, lengths, *rope))

    def test_three_posts_have_none(self):
        self.assertEqual(ratios(3, [], some_lengths(3, [])), {})

    def test_many_figures(self):
        lengths = {tie: (FAR, 1) for tie in SQUARE}
        lengths[0, 1] = (1, FAR)
        self.assertTrue(ratio(4, [(0, 2)], lengths, 0, 2) == (1, FAR ** 2))

    def test_no_rope(self):
        for n, cut in CUTTINGS:
            lengths = ones(n, cut)
            for a, b in no_ropes(n, cut):
                with self.assertRaises(MeadError) as caught:
                    ratio(n, cut, lengths, a, b)
                self.assertIs(type(caught.exception), NoRope)

    def test_a_new_dict_each_time(self):
        ratios(4, [(0, 2)], SQUARE).clear()
        self.assertEqual(ratios(4, [(0, 2)], SQUARE), {(0, 2): (3, 8)})


class TestTurnedRatios(unittest.TestCase):
    def test_a_small_one(self):
        self.assertEqual(turned_ratios(4, [(0, 2)], {(0, 2): (3, 8)}, 2, 0), {(1, 3): (8, 3)})

    def test_forward_and_backward_ties(self):
        # Rope (0, 3) has the posts 0, 2, 3, 4 round it: (0, 2) is a forward tie.
        cut = [(0, 2), (0, 3)]
        rates = {(0, 2): (5, 1), (0, 3): (2, 1)}
        self.assertEqual(
            turned_ratios(5, cut, rates, 0, 3), {(0, 2): (15, 1), (2, 4): (1, 2)})
        # Rope (0, 2) has the posts 0, 1, 2, 3 round it: (0, 3) is a backward tie.
        self.assertEqual(
            turned_ratios(5, cut, rates, 0, 2), {(0, 3): (5, 3), (1, 3): (1, 5)})

    def test_the_ratios_of_the_turned_cutting(self):
        for n, cut, lengths in cases():
            rates = ratios(n, cut, lengths)
            for a, b in cut:
                handed, handed_cut = dict(rates), list(cut)
                found = turned_ratios(n, handed_cut, handed, a, b)
                self.assertEqual((handed, handed_cut), (rates, cut))
                behind = laid(n, cut, lengths, a, b)
                self.assertEqual(found, ratios(n, turned(n, cut, a, b), behind))
                self.assertEqual(found, turned_ratios(n, cut, rates, b, a))

    def test_turned_again_it_leads_back(self):
        for n, cut, lengths in cases():
            rates = ratios(n, cut, lengths)
            for rope in cut:
                after = flipped(n, cut, rope)
                (new,) = set(after) - set(cut)
                found = turned_ratios(n, cut, rates, *rope)
                self.assertEqual(turned_ratios(n, after, found, *new), rates)

    def test_no_rope(self):
        for n, cut in CUTTINGS:
            rates = {rope: (2, 3) for rope in cut}
            for a, b in no_ropes(n, cut):
                with self.assertRaises(MeadError) as caught:
                    turned_ratios(n, cut, rates, a, b)
                self.assertIs(type(caught.exception), NoRope)
            self.assertEqual(rates, {rope: (2, 3) for rope in cut})


class TestStretched(unittest.TestCase):
    def test_a_small_one(self):
        self.assertEqual(stretched(4, SQUARE, 2, (2, 3)), {
            (0, 1): (1, 1), (0, 2): (5, 3), (0, 3): (4, 1), (1, 2): (4, 3), (2, 3): (2, 1)})

    def test_each_measured_length(self):
        for n, cut, lengths in cases():
            for post in (0, n // 2, n - 1):
                handed = dict(lengths)
                found = stretched(n, handed, post, (7, 3))
                self.assertEqual(handed, lengths)
                self.assertEqual(sorted(found), all_ties(n, cut))
                for a, b in combinations(range(n), 2):
                    ahead = Fraction(*measured(n, cut, lengths, a, b))
                    factor = Fraction(7, 3) if post in (a, b) else 1
                    self.assertEqual(measured(n, cut, found, a, b), parts(ahead * factor))

    def test_no_ratio_is_changed(self):
        for n, cut, lengths in cases():
            for post in range(n):
                for factor in ((1, 10 ** 30), (5, 2), (1, 1)):
                    found = stretched(n, lengths, post, factor)
                    self.assertEqual(ratios(n, cut, found), ratios(n, cut, lengths))

    def test_refusals_in_their_order(self):
        for n, cut in CUTTINGS:
            lengths = ones(n, cut)
            for post in (n, n + 1, -1, -n, FAR, -FAR):
                for factor in ((1, 1), (0, 1), (-1, 2), (-FAR, 1)):
                    with self.assertRaises(NoPost):
                        stretched(n, lengths, post, factor)
            for post in (0, n - 1):
                for factor in ((0, 1), (-1, 2), (-FAR, 1), (-1, FAR)):
                    with self.assertRaises(NoFraction):
                        stretched(n, lengths, post, factor)
            self.assertEqual(lengths, ones(n, cut))

    def test_a_new_dict_each_time(self):
        handed = dict(SQUARE)
        stretched(4, handed, 0, (1, 1)).clear()
        self.assertEqual(handed, SQUARE)


def stretched_often(n, lengths, turn):
    """The lengths with each post stretched, and the factors."""
    factors = [parts(Fraction(2 + (post + turn) % 5, 1 + (post * turn) % 3)) for post in range(n)]
    for post, factor in enumerate(factors):
        lengths = stretched(n, lengths, post, factor)
    return lengths, factors


class TestStretches(unittest.TestCase):
    def test_a_small_one(self):
        other = {tie: parts(4 * Fraction(*length)) for tie, length in SQUARE.items()}
        self.assertEqual(stretches(4, [(0, 2)], SQUARE, other), [(4, 1)] * 4)

    def test_factors_squared(self):
        for n, cut, lengths in cases():
            other, factors = stretched_often(n, lengths, 2)
            squares = [parts(Fraction(*factor) ** 2) for factor in factors]
            self.assertEqual(stretches(n, cut, lengths, other), squares)

    def test_the_square_rule_between_every_two_posts(self):
        for n, cut, lengths in cases():
            # All lengths twice as great: no fraction of a post is a square.
            other, _ = stretched_often(n, lengths, 1)
            other = {tie: parts(2 * Fraction(*length)) for tie, length in other.items()}
            found = stretches(n, cut, lengths, other)
            self.assertIs(type(found), list)
            self.assertEqual(len(found), n)
            for one in found:
                self.assertIs(type(one), tuple)
                self.assertEqual(one, parts(Fraction(*one)))
                self.assertGreater(one[0], 0)
            ahead, behind = all_lengths(n, lengths), all_lengths(n, other)
            for a, b in combinations(range(n), 2):
                self.assertEqual(
                    (behind[a, b] / ahead[a, b]) ** 2,
                    Fraction(*found[a]) * Fraction(*found[b]))

    def test_not_alike(self):
        for n, cut, lengths in cases():
            for tie in lengths:
                other, _ = stretched_often(n, lengths, 1)
                other[tie] = parts(Fraction(*other[tie]) + Fraction(1, 10 ** 30))
                # A side stands in the ratio of the rope of its plot, and a rope in
                # that of another rope; alone the one rope of four posts stands in none.
                if n == 3 or (n == 4 and tie in cut):
                    self.assertIs(alike(n, cut, lengths, other), True)
                    self.assertEqual(len(stretches(n, cut, lengths, other)), n)
                else:
                    self.assertIs(alike(n, cut, lengths, other), False)
                    self.assertIsNone(stretches(n, cut, lengths, other))
                    self.assertIsNone(stretches(n, cut, other, lengths))

    def test_the_rope_of_four_posts_alone(self):
        # As where two posts are stretched by the square root of two and the others by
        # one over it, the sides stay.
        other = dict(SQUARE)
        other[0, 2] = (5, 1)
        found = stretches(4, [(0, 2)], SQUARE, other)
        self.assertEqual(found, [(2, 1), (1, 2), (2, 1), (1, 2)])
        ahead, behind = all_lengths(4, SQUARE), all_lengths(4, other)
        for a, b in combinations(range(4), 2):
            self.assertEqual(
                (behind[a, b] / ahead[a, b]) ** 2, Fraction(*found[a]) * Fraction(*found[b]))

    def test_three_posts_are_always_alike(self):
        one = {(0, 1): (1, 1), (0, 2): (2, 1), (1, 2): (3, 1)}
        other = {(0, 1): (5, 1), (0, 2): (2, 7), (1, 2): (1, 1)}
        self.assertIs(alike(3, [], one, other), True)
        # 5, 1/7 and 1/3 as great: the products of two of the three are their squares.
        self.assertEqual(stretches(3, [], one, other), [(15, 7), (35, 3), (1, 105)])

    def test_nothing_is_changed(self):
        for n, cut, lengths in cases():
            other, _ = stretched_often(n, lengths, 1)
            handed, handed_other, handed_cut = dict(lengths), dict(other), list(cut)
            stretches(n, handed_cut, handed, handed_other).clear()
            alike(n, handed_cut, handed, handed_other)
            self.assertEqual((handed, handed_other, handed_cut), (lengths, other, cut))

    def test_many_figures(self):
        other = {tie: parts(Fraction(FAR + 1, FAR) * Fraction(*SQUARE[tie])) for tie in SQUARE}
        self.assertTrue(stretches(4, [(0, 2)], SQUARE, other) == [(FAR + 1, FAR)] * 4)


class TestAlike(unittest.TestCase):
    def test_with_itself_and_both_ways_about(self):
        for n, cut, lengths in cases():
            other, _ = stretched_often(n, lengths, 2)
            self.assertIs(alike(n, cut, lengths, lengths), True)
            self.assertIs(alike(n, cut, lengths, other), True)
            self.assertIs(alike(n, cut, other, lengths), True)

    def test_it_stays_behind_turnings_of_both(self):
        for n, cut, lengths in cases():
            other, factors = stretched_often(n, lengths, 2)
            squares = [parts(Fraction(*factor) ** 2) for factor in factors]
            for turning in range(2 * len(cut)):
                a, b = cut[turning * 3 % len(cut)]
                lengths = laid(n, cut, lengths, a, b)
                other = laid(n, cut, other, a, b)
                cut = turned(n, cut, a, b)
                self.assertIs(alike(n, cut, lengths, other), True)
                self.assertEqual(stretches(n, cut, lengths, other), squares)

    def test_unlike_ones_stay_unlike(self):
        n, cut = 6, [(0, 2), (0, 4), (2, 4)]
        lengths, other = ones(6, cut), ones(6, cut)
        other[0, 1] = (2, 1)
        for turning in range(9):
            a, b = cut[turning % 3]
            lengths, other = laid(n, cut, lengths, a, b), laid(n, cut, other, a, b)
            cut = turned(n, cut, a, b)
            self.assertIs(alike(n, cut, lengths, other), False)
            self.assertIsNone(stretches(n, cut, lengths, other))


if __name__ == "__main__":
    unittest.main()

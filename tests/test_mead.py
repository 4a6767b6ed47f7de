"""Points 1, 24 and 25: Meads as they are made, and their deeds."""

import unittest
from itertools import combinations

from postmead.errors import (
    BadLength, Few, Full, HasRopes, NoCutting, NoFraction, NoPost, NoRope)
from postmead.lengths import laid
from postmead.likeness import stretched
from postmead.mead import Mead
from tests.cuttings import FAR, flipped, ring_ropes, ring_sides
from tests.meads import CUT, Meads, before, beyond, made, measures, state, whole
from tests.measures import CUTTINGS, all_ties, ones, some_lengths


class TestMade(Meads):
    def test_as_it_was_made(self):
        for n, cut in CUTTINGS:
            lengths = some_lengths(n, cut)
            mead = Mead(n, [rope[::-1] for rope in cut[::-1]], lengths)
            self.assertEqual(state(mead), (n, cut, lengths, []))

    def test_no_cutting_first(self):
        for n, ropes in (
                (2, []), (13, []), (0, []), (-1, []), (FAR, []), (4, []), (4, [(0, 1)]),
                (4, [(0, 2), (1, 3)]), (5, [(0, 2), (1, 3)]), (5, [(0, 2), (2, 0)]),
                (3, [(0, 2)]), (4, [(0, FAR)])):
            for lengths in ({}, {(0, 1): (0, 1)}, {(9, 4): (2, 2)}, ones(4, [(0, 2)])):
                with self.assertRaises(NoCutting):
                    Mead(n, ropes, lengths)

    def test_bad_lengths(self):
        for n, cut in CUTTINGS:
            good = some_lengths(n, cut)
            cases = [{}]
            for tie in good:
                rest = {other: good[other] for other in good if other != tie}
                cases.append(rest)
                cases.append({**rest, tie[::-1]: good[tie]})
                cases.append({**good, tie[::-1]: good[tie]})
                for bad in ((0, 1), (-1, 2), (2, 2), (6, 4), (1, 0), (0, 0), (1, -2), (-1, -2),
                            (0, 5), (FAR, FAR), (-FAR, 1)):
                    cases.append({**good, tie: bad})
            for pair in ((0, n), (0, 0), (n - 1, n), (-1, 0), (FAR, FAR + 1), (-FAR, 1)):
                cases.append({**good, pair: (1, 1)})
            for rope in ring_ropes(n):
                if rope not in cut:
                    cases.append({**good, rope: (1, 1)})
            for lengths in cases:
                handed = dict(lengths)
                with self.assertRaises(BadLength):
                    Mead(n, cut, lengths)
                self.assertTrue(handed == lengths)

    def test_what_is_handed_in_is_not_kept(self):
        ropes, lengths = [(2, 0), (0, 3)], some_lengths(5, CUT)
        mead = Mead(5, ropes, lengths)
        self.assertEqual((ropes, lengths), ([(2, 0), (0, 3)], some_lengths(5, CUT)))
        ropes.clear()
        lengths[0, 2] = (10 ** 9, 1)
        del lengths[0, 1]
        self.assertEqual(state(mead), (5, CUT, some_lengths(5, CUT), []))

    def test_what_is_told_can_be_changed(self):
        mead = self.with_undone()
        ahead = whole(mead)
        mead.ropes().clear()
        mead.lengths().clear()
        mead.lengths()[0, 1] = (9, 1)
        mead.deeds().clear()
        mead.lead(0).append("more")
        for _ in range(len(mead.deeds()) - len(ahead[0][3])):
            mead.back()
        self.assertEqual(state(mead), ahead[0])


class TestTurn(Meads):
    def test_each_rope(self):
        for n, cut in CUTTINGS:
            for a, b in cut:
                for one, other in ((a, b), (b, a)):
                    mead = made(n, cut)
                    told = mead.turn(one, other)
                    after = flipped(n, cut, (a, b))
                    (new,) = set(after) - set(cut)
                    self.assertIs(type(told), tuple)
                    self.assertEqual(told, new)
                    lengths = laid(n, cut, some_lengths(n, cut, 1), a, b)
                    self.assertEqual(state(mead), (n, after, lengths, [("turn", a, b)]))

    def test_no_rope(self):
        for n, cut in CUTTINGS[:9]:
            mead = made(n, cut)
            no_ropes = ring_sides(n) + [rope for rope in ring_ropes(n) if rope not in cut]
            for a, b in no_ropes + [(0, 0), (n, 1), (-1, 2), (FAR, 0), (FAR, -FAR), (n, n)]:
                self.refuses(NoRope, mead, lambda one: one.turn(a, b))
                self.refuses(NoRope, mead, lambda one: one.turn(b, a))
        self.refuses(NoRope, self.with_undone(), lambda one: one.turn(0, 1))


class TestStretch(Meads):
    def test_each_post(self):
        for n, cut in CUTTINGS:
            for post in range(n):
                mead = made(n, cut)
                self.assertIsNone(mead.stretch(post, (3, 7)))
                lengths = stretched(n, some_lengths(n, cut, 1), post, (3, 7))
                self.assertEqual(state(mead), (n, cut, lengths, [("stretch", post, (3, 7))]))

    def test_refusals_in_their_order(self):
        for mead in (made(), self.with_undone(), made(3, [])):
            n = mead.posts()
            for post in (n, n + 1, -1, -n, FAR, -FAR):
                for factor in ((1, 1), (0, 1), (-2, 3)):
                    self.refuses(NoPost, mead, lambda one: one.stretch(post, factor))
            for post in (0, n - 1):
                for factor in ((0, 1), (-2, 3), (-FAR, 1)):
                    self.refuses(NoFraction, mead, lambda one: one.stretch(post, factor))


class TestSetOut(Meads):
    def test_a_small_one(self):
        mead = Mead(3, [], {(0, 1): (1, 1), (0, 2): (2, 1), (1, 2): (3, 1)})
        self.assertEqual(mead.set_out(1, (5, 1), (7, 1)), 2)
        self.assertEqual(state(mead), (4, [(1, 3)], {
            (0, 1): (1, 1), (0, 3): (2, 1), (1, 2): (5, 1), (1, 3): (3, 1), (2, 3): (7, 1),
        }, [("set", 1, (5, 1), (7, 1))]))

    def test_between_the_last_post_and_post_0(self):
        mead = Mead(3, [], {(0, 1): (1, 1), (0, 2): (2, 1), (1, 2): (3, 1)})
        self.assertEqual(mead.set_out(2, (5, 1), (7, 1)), 3)
        self.assertEqual(state(mead), (4, [(0, 2)], {
            (0, 1): (1, 1), (0, 2): (2, 1), (0, 3): (7, 1), (1, 2): (3, 1), (2, 3): (5, 1),
        }, [("set", 2, (5, 1), (7, 1))]))

    def test_between_post_0_and_post_1(self):
        mead = Mead(3, [], {(0, 1): (1, 1), (0, 2): (2, 1), (1, 2): (3, 1)})
        self.assertEqual(mead.set_out(0, (5, 1), (7, 1)), 1)
        self.assertEqual(state(mead), (4, [(0, 2)], {
            (0, 1): (5, 1), (0, 2): (1, 1), (0, 3): (2, 1), (1, 2): (7, 1), (2, 3): (3, 1),
        }, [("set", 0, (5, 1), (7, 1))]))

    def test_at_each_side(self):
        for n, cut in CUTTINGS:
            if n == 12:
                continue
            for k in range(n):
                mead = made(n, cut)
                ahead, lengths = measures(mead), mead.lengths()
                self.assertEqual(mead.set_out(k, (5, 11), (7, 13)), k + 1)
                self.assertEqual(mead.posts(), n + 1)
                self.assertEqual(mead.deeds(), [("set", k, (5, 11), (7, 13))])
                up = beyond(k)
                side = tuple(sorted((up(k), up((k + 1) % n))))
                ropes = sorted([(up(a), up(b)) for a, b in cut] + [side])
                self.assertEqual(mead.ropes(), ropes)
                told = mead.lengths()
                self.assertEqual(sorted(told), all_ties(n + 1, ropes))
                for (a, b), length in lengths.items():
                    self.assertEqual(told[up(a), up(b)], length)
                self.assertEqual(mead.length(k + 1, k), (5, 11))
                self.assertEqual(mead.length(k + 1, (k + 2) % (n + 1)), (7, 13))
                for a, b in combinations(range(n), 2):
                    self.assertEqual(mead.length(up(a), up(b)), ahead[a][b])

    def test_refusals_in_their_order(self):
        full = made(*CUTTINGS[-1])
        self.assertEqual(full.posts(), 12)
        for mead in (made(), self.with_undone(), full):
            n = mead.posts()
            for k in (n, -1, -n, FAR, -FAR):
                for one, other in (((1, 1), (1, 1)), ((0, 1), (1, 1)), ((1, 1), (-1, 1))):
                    self.refuses(NoPost, mead, lambda play: play.set_out(k, one, other))
            for one, other in (
                    ((0, 1), (1, 1)), ((1, 1), (0, 1)), ((-1, 2), (1, 2)), ((1, 2), (-FAR, 1)),
                    ((0, 1), (0, 1))):
                for k in (0, n - 1):
                    self.refuses(NoFraction, mead, lambda play: play.set_out(k, one, other))
        for k in (0, 5, 11):
            self.refuses(Full, full, lambda play: play.set_out(k, (1, 1), (1, 1)))

    def test_from_three_posts_to_twelve(self):
        mead = made(3, [])
        for n in range(3, 12):
            self.assertEqual(mead.set_out(7 % n, (n, 1), (1, n)), 7 % n + 1)
        self.assertEqual(mead.posts(), 12)
        self.refuses(Full, mead, lambda play: play.set_out(0, (1, 1), (1, 1)))


class TestDraw(Meads):
    def test_a_small_one(self):
        lengths = {
            (0, 1): (1, 1), (0, 3): (2, 1), (1, 2): (5, 1), (1, 3): (3, 1), (2, 3): (7, 1)}
        mead = Mead(4, [(1, 3)], lengths)
        self.assertEqual(mead.draw(2), ((5, 1), (7, 1)))
        self.assertEqual(state(mead), (3, [], {
            (0, 1): (1, 1), (0, 2): (2, 1), (1, 2): (3, 1)}, [("draw", 2)]))

    def test_post_0(self):
        lengths = {
            (0, 1): (1, 1), (0, 3): (2, 1), (1, 2): (5, 1), (1, 3): (3, 1), (2, 3): (7, 1)}
        mead = Mead(4, [(1, 3)], lengths)
        self.assertEqual(mead.draw(0), ((2, 1), (1, 1)))
        self.assertEqual(state(mead), (3, [], {
            (0, 1): (5, 1), (0, 2): (3, 1), (1, 2): (7, 1)}, [("draw", 0)]))

    def test_the_last_post(self):
        lengths = {
            (0, 1): (1, 1), (0, 3): (2, 1), (1, 2): (5, 1), (0, 2): (3, 1), (2, 3): (7, 1)}
        mead = Mead(4, [(0, 2)], lengths)
        self.assertEqual(mead.draw(3), ((7, 1), (2, 1)))
        self.assertEqual(state(mead), (3, [], {
            (0, 1): (1, 1), (0, 2): (3, 1), (1, 2): (5, 1)}, [("draw", 3)]))

    def test_each_post_without_ropes(self):
        drawn = set()
        for n, cut in CUTTINGS:
            for post in range(n):
                if n == 3 or any(post in rope for rope in cut):
                    continue
                mead = made(n, cut)
                ahead, lengths = measures(mead), mead.lengths()
                told = mead.draw(post)
                self.assertIs(type(told), tuple)
                self.assertEqual(told, (ahead[post][post - 1], ahead[post][(post + 1) % n]))
                ropes = [
                    (a, b) for a, b in ring_ropes(n - 1)
                    if (before(a, post), before(b, post)) in cut]
                self.assertEqual(mead.posts(), n - 1)
                self.assertEqual(mead.ropes(), ropes)
                self.assertEqual(mead.deeds(), [("draw", post)])
                for (a, b), length in mead.lengths().items():
                    self.assertEqual(lengths[before(a, post), before(b, post)], length)
                for a, b in combinations(range(n - 1), 2):
                    self.assertEqual(
                        mead.length(a, b), ahead[before(a, post)][before(b, post)])
                drawn.add((post == 0, post == n - 1))
        self.assertEqual(len(drawn), 3)

    def test_what_is_set_out_is_drawn_again(self):
        for n, cut in CUTTINGS:
            if n < 12:
                for k in range(n):
                    mead = made(n, cut)
                    ahead = state(mead)[:3]
                    told = mead.draw(mead.set_out(k, (5, 11), (7, 13)))
                    self.assertEqual(told, ((5, 11), (7, 13)))
                    self.assertEqual(state(mead)[:3], ahead)

    def test_refusals_in_their_order(self):
        for mead in (made(), self.with_undone(), made(3, []), made(*CUTTINGS[-1])):
            n = mead.posts()
            for post in (n, n + 1, -1, -n, FAR, -FAR):
                self.refuses(NoPost, mead, lambda one: one.draw(post))
        for post in range(3):
            self.refuses(Few, made(3, []), lambda one: one.draw(post))
        for n, cut in CUTTINGS:
            mead = made(n, cut)
            for post in range(n):
                if any(post in rope for rope in cut):
                    self.refuses(HasRopes, mead, lambda one: one.draw(post))

    def test_from_twelve_posts_to_three(self):
        mead = made(*CUTTINGS[-1])
        while mead.posts() > 3:
            mead.draw([post for post in range(mead.posts())
                       if not any(post in rope for rope in mead.ropes())][-1])
        self.assertEqual(mead.ropes(), [])
        self.refuses(Few, mead, lambda one: one.draw(0))


if __name__ == "__main__":
    unittest.main()

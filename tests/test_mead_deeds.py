"""Points 1, 26 and 27: deeds taken back and done again, lengths through deeds, twins."""

import unittest
from fractions import Fraction
from itertools import combinations

from postmead.counts import cutting_at, how_many, number_of
from postmead.cuts import turned
from postmead.errors import NoBack, NoNumber, NoPost
from postmead.lengths import laid, table
from postmead.likeness import alike, stretched
from postmead.mead import Mead
from tests.cuttings import FAR
from tests.meads import CUT, Meads, beyond, made, measures, some_deeds, state, whole
from tests.measures import CUTTINGS, all_lengths, all_table, all_ties, parts, some_lengths


def lead_ropes(mead, count):
    """The ropes turned by the deeds from the count on, where all of them are turnings."""
    deeds = mead.deeds()[count:]
    return [deed[1:] for deed in deeds if deed[0] == "turn"]


class TestBackAndAgain(Meads):
    def test_each_kind(self):
        acts = [
            (lambda one: one.turn(3, 0), ("turn", 0, 3)),
            (lambda one: one.stretch(2, (1, 2)), ("stretch", 2, (1, 2))),
            (lambda one: one.set_out(4, (1, 2), (2, 1)), ("set", 4, (1, 2), (2, 1))),
            (lambda one: one.draw(1), ("draw", 1)),
        ]
        for act, deed in acts:
            mead = made()
            ahead = state(mead)
            act(mead)
            behind = state(mead)
            self.assertEqual(mead.back(), deed)
            self.assertEqual(state(mead), ahead)
            self.assertEqual(mead.again(), deed)
            self.assertEqual(state(mead), behind)

    def test_no_back(self):
        mead = made()
        self.refuses(NoBack, mead, lambda one: one.back())
        self.refuses(NoBack, mead, lambda one: one.again())
        mead.turn(0, 2)
        self.refuses(NoBack, mead, lambda one: one.again())
        mead.back()
        self.refuses(NoBack, mead, lambda one: one.back())
        mead.again()
        self.refuses(NoBack, mead, lambda one: one.again())

    def test_a_new_deed_lets_go_of_what_was_taken_back(self):
        news = [
            lambda one: one.turn(0, 2), lambda one: one.stretch(0, (1, 1)),
            lambda one: one.set_out(0, (1, 1), (1, 1)), lambda one: one.draw(1),
            lambda one: one.lead(0),
        ]
        for act in news:
            mead = made()
            mead.turn(0, 3)
            mead.stretch(1, (2, 1))
            mead.back()
            mead.back()
            act(mead)
            self.refuses(NoBack, mead, lambda one: one.again())

    def test_any_mixture(self):
        mead = made()
        states, at = [state(mead)], 0
        moves = "dddbadbbaddbbbaadd"
        for turn in range(300):
            move = moves[turn % len(moves)]
            if move == "b" and at > 0:
                deed = mead.back()
                self.assertEqual(deed, states[at][3][-1])
                at -= 1
            elif move == "a" and at < len(states) - 1:
                deed = mead.again()
                at += 1
                self.assertEqual(deed, states[at][3][-1])
            else:
                count = len(mead.deeds())
                ahead = mead.twin()
                some_deeds(mead, turn)
                if len(mead.deeds()) > count:
                    states = states[:at + 1]
                    for a, b in lead_ropes(mead, count):
                        ahead.turn(a, b)
                        states.append(state(ahead))
                    if len(states) == at + 1:
                        states.append(state(mead))
                    at = len(states) - 1
            self.assertTrue(state(mead) == states[at])
        self.assertGreater(at, 20)
        for where in range(at - 1, -1, -1):
            mead.back()
            self.assertTrue(state(mead) == states[where])
        self.refuses(NoBack, mead, lambda one: one.back())
        for where in range(1, len(states)):
            mead.again()
            self.assertTrue(state(mead) == states[where])
        self.refuses(NoBack, mead, lambda one: one.again())


class TestLead(Meads):
    def test_to_each_number_of_few_posts(self):
        for n in range(3, 7):
            for start in range(0, how_many(n), 3):
                for number in range(how_many(n)):
                    self.leads(n, cutting_at(n, start), number)

    def test_some_numbers_of_many_posts(self):
        for n, cut in CUTTINGS:
            for number in (0, how_many(n) // 2, how_many(n) - 1, number_of(n, cut)):
                self.leads(n, cut, number)

    def leads(self, n, cut, number):
        mead = made(n, cut)
        ahead = measures(mead) if n < 7 else None
        ropes = mead.lead(number)
        self.assertIs(type(ropes), list)
        self.assertEqual(mead.ropes(), cutting_at(n, number))
        self.assertEqual(mead.deeds(), [("turn", a, b) for a, b in ropes])
        goal = mead.ropes()
        for post in range(n):
            off = [rope for rope in cut + goal if post not in rope]
            self.assertLessEqual(len(ropes), len(off))
        if ahead is not None:
            self.assertEqual(measures(mead), ahead)
        for turning in range(len(ropes) - 1, -1, -1):
            self.assertEqual(mead.back(), ("turn", *ropes[turning]))
            self.assertEqual(mead.deeds(), [("turn", a, b) for a, b in ropes[:turning]])
        self.assertEqual(state(mead), (n, cut, some_lengths(n, cut, 1), []))

    def test_the_number_that_it_has(self):
        for mead in (self.with_undone(), made(), made(3, [])):
            ahead = whole(mead)
            self.assertEqual(mead.lead(number_of(mead.posts(), mead.ropes())), [])
            self.assertEqual(whole(mead), ahead)

    def test_nothing_is_let_go_of_where_it_has_the_number(self):
        mead = made()
        mead.stretch(0, (2, 1))
        mead.back()
        mead.lead(number_of(5, CUT))
        self.assertEqual(mead.again(), ("stretch", 0, (2, 1)))

    def test_no_number(self):
        for mead in (self.with_undone(), made(3, []), made(*CUTTINGS[-1])):
            count = how_many(mead.posts())
            for number in (count, count + 1, -1, -count, FAR, -FAR):
                self.refuses(NoNumber, mead, lambda one: one.lead(number))


class TestLength(Meads):
    def test_as_by_the_rule_of_four(self):
        for n, cut in CUTTINGS:
            self.assertEqual(measures(made(n, cut)), all_table(n, some_lengths(n, cut, 1)))

    def test_no_turning_changes_it(self):
        for n, cut in CUTTINGS:
            mead = made(n, cut)
            ahead = measures(mead)
            for turning in range(6 if cut else 0):
                mead.turn(*mead.ropes()[turning * 5 % len(cut)])
                self.assertEqual(measures(mead), ahead)

    def test_through_posts_set_out_and_drawn(self):
        mead = made()
        ahead = measures(mead)
        mead.turn(0, 2)
        self.assertEqual(mead.set_out(2, (1, 3), (5, 2)), 3)
        up = beyond(2)
        for turning in range(8):
            for a, b in combinations(range(5), 2):
                self.assertEqual(mead.length(up(a), up(b)), ahead[a][b])
            mead.turn(*mead.ropes()[turning * 2 % 3])
        # A cutting in which post 3 has no ropes.
        mead.lead(number_of(6, [(0, 2), (0, 4), (2, 4)]))
        self.assertEqual(mead.draw(3), ((1, 3), (5, 2)))
        self.assertEqual(measures(mead), ahead)

    def test_a_post_stretched(self):
        mead = made()
        ahead = measures(mead)
        mead.stretch(4, (3, 2))
        for a, b in combinations(range(5), 2):
            factor = Fraction(3, 2) if 4 in (a, b) else 1
            self.assertEqual(mead.length(a, b), parts(Fraction(*ahead[a][b]) * factor))

    def test_no_post(self):
        for mead in (made(), self.with_undone(), made(3, []), made(*CUTTINGS[-1])):
            n = mead.posts()
            for a, b in (
                    (0, 0), (n - 1, n - 1), (n, n), (0, n), (n, 0), (-1, 1), (1, -1), (FAR, 0),
                    (-FAR, FAR), (FAR, FAR)):
                self.refuses(NoPost, mead, lambda one: one.length(a, b))

    def test_many_figures(self):
        lengths = {tie: parts(Fraction(FAR + tie[0], FAR + 7 + tie[1])) for tie in all_ties(5, CUT)}
        mead = Mead(5, CUT, lengths)
        known = all_lengths(5, lengths)
        for a, b in combinations(range(5), 2):
            self.assertTrue(mead.length(b, a) == parts(known[a, b]))
        mead.turn(0, 2)
        mead.stretch(0, (FAR, 1))
        self.assertTrue(mead.length(1, 3) == parts(known[1, 3]))
        self.assertTrue(mead.length(0, 2) == parts(known[0, 2] * FAR))


class TestTwin(Meads):
    def test_as_the_first_one(self):
        for mead in (made(), self.with_undone(), made(3, []), made(*CUTTINGS[-1])):
            twin = mead.twin()
            self.assertIs(type(twin), Mead)
            self.assertIsNot(twin, mead)
            self.assertEqual(whole(twin), whole(mead))

    def test_deeds_that_stand_and_deeds_taken_back(self):
        mead = self.with_undone()
        twin = mead.twin()
        self.assertEqual(twin.again(), ("set", 4, (1, 2), (3, 1)))
        self.assertEqual(twin.again(), ("turn", 0, 3))
        self.assertEqual(twin.back(), ("turn", 0, 3))
        for deed in (("set", 4, (1, 2), (3, 1)), ("stretch", 1, (2, 3)), ("turn", 0, 2)):
            self.assertEqual(twin.back(), deed)
        self.assertEqual(state(twin), state(made()))
        self.assertEqual(mead.deeds(), [("turn", 0, 2), ("stretch", 1, (2, 3))])

    def test_each_goes_its_own_way(self):
        acts = [
            lambda one: one.back(), lambda one: one.again(), lambda one: one.turn(0, 3),
            lambda one: one.stretch(0, (5, 1)), lambda one: one.set_out(0, (1, 1), (1, 1)),
            lambda one: one.draw(2), lambda one: one.lead(1),
        ]
        for act in acts:
            mead = self.with_undone()
            twin = mead.twin()
            ahead = whole(mead)
            act(twin)
            self.assertEqual(whole(mead), ahead)
            self.assertNotEqual(whole(twin), ahead)
            twin = mead.twin()
            act(mead)
            self.assertEqual(whole(twin), ahead)
            act(twin)
            self.assertEqual(whole(twin), whole(mead))


class TestAlikeTo(Meads):
    def both(self, one, other, expected):
        seen = whole(one), whole(other)
        self.assertIs(one.alike_to(other), expected)
        self.assertIs(other.alike_to(one), expected)
        self.assertEqual((whole(one), whole(other)), seen)

    def test_itself_and_its_twin(self):
        for n, cut in CUTTINGS:
            mead = made(n, cut)
            self.both(mead, mead, True)
            self.both(mead, mead.twin(), True)

    def test_unlike_ropes_and_posts_stretched(self):
        for n, cut in CUTTINGS:
            mead, twin = made(n, cut), made(n, cut)
            for post in range(n):
                twin.stretch(post, (post + 2, 2 * post + 3))
            for number in (0, how_many(n) - 1, how_many(n) // 3):
                twin.lead(number)
                self.both(mead, twin, True)

    def test_unlike_lengths(self):
        for n, cut in CUTTINGS:
            lengths = some_lengths(n, cut, 1)
            for tie in lengths:
                changed = {**lengths, tie: parts(Fraction(*lengths[tie]) + Fraction(1, 10 ** 9))}
                other = Mead(n, cut, changed)
                expected = alike(n, cut, lengths, changed)
                self.both(made(n, cut), other, expected)
                other.lead(how_many(n) - 1)
                self.both(made(n, cut), other, expected)

    def test_unlike_numbers_of_posts(self):
        one, other = made(3, []), made(4, [(0, 2)])
        self.both(one, other, False)
        mead = made()
        twin = mead.twin()
        twin.set_out(0, (1, 1), (1, 1))
        self.both(mead, twin, False)
        twin.draw(1)
        self.both(mead, twin, True)

    def test_three_posts_are_always_alike(self):
        self.both(made(3, [], 1), made(3, [], 4), True)


class TestDeedByDeed(Meads):
    def test_many_deeds_and_a_plain_list_of_them(self):
        """Does the deeds that `deeds` tells once more, by the plain functions."""
        mead = made()
        for turn in range(60):
            some_deeds(mead, turn)
        n, cut, lengths = 5, CUT, some_lengths(5, CUT, 1)
        for deed in mead.deeds():
            if deed[0] == "turn":
                lengths, cut = laid(n, cut, lengths, *deed[1:]), turned(n, cut, *deed[1:])
            elif deed[0] == "stretch":
                lengths = stretched(n, lengths, *deed[1:])
            else:
                other = Mead(n, cut, lengths)
                act = {"set": other.set_out, "draw": other.draw}[deed[0]]
                act(*deed[1:])
                n, cut, lengths = other.posts(), other.ropes(), other.lengths()
        self.assertTrue(state(mead)[:3] == (n, cut, lengths))
        self.assertEqual({deed[0] for deed in mead.deeds()}, {"turn", "stretch", "set", "draw"})
        self.assertTrue(measures(mead) == table(n, cut, lengths))


if __name__ == "__main__":
    unittest.main()

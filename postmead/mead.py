"""Meads that live: posts, ropes and lengths, and the deeds done to them."""

from postmead.counts import cutting_at
from postmead.cuts import (
    LEAST_POSTS, MOST_POSTS, kept, new_rope, ropes_among, ties, turned)
from postmead.errors import BadLength, Few, Full, HasRopes, NoBack, NoFraction
from postmead.lengths import laid, measured
from postmead.likeness import alike, stretched
from postmead.parts import is_length
from postmead.posts import need_post, pair_of
from postmead.roads import road


class Mead:
    """A mead and the row of its deeds.

    It is a state, a tuple (posts, cutting, lengths) that is never changed but only
    given up for another one; so a deed is taken back by going back to the state
    ahead of it.
    """

    def __init__(self, n, ropes, lengths):
        cut = kept(n, ropes)
        self._state = (n, cut, checked(n, cut, lengths))
        # Each deed that stands with the state ahead of it, the last deed last.
        self._standing = []
        # Each deed taken back with the state behind it, the one taken back last last.
        self._undone = []

    def posts(self):
        """The number of posts."""
        n, _, _ = self._state
        return n

    def ropes(self):
        """The cutting."""
        _, cut, _ = self._state
        return list(cut)

    def lengths(self):
        """A dict from each tie to its length."""
        _, _, lengths = self._state
        return {tie: lengths[tie] for tie in lengths}

    def deeds(self):
        """The deeds that stand, the first one first."""
        return [deed for deed, _ in self._standing]

    def length(self, a, b):
        """What is measured between two posts; NoPost where they are not two posts."""
        n, cut, lengths = self._state
        return measured(n, cut, lengths, a, b)

    def turn(self, a, b):
        """Turns rope (a, b) and answers the new rope; NoRope for what is no rope."""
        n, cut, lengths = self._state
        new = new_rope(n, cut, a, b)
        low, high = pair_of(a, b)
        behind = laid(n, cut, lengths, a, b)
        self._do(("turn", low, high), n, turned(n, cut, a, b), behind)
        return new

    def stretch(self, post, factor):
        """Stretches a post; NoPost, then NoFraction for a factor not above nought."""
        n, cut, lengths = self._state
        behind = stretched(n, lengths, post, factor)
        self._do(("stretch", post, factor), n, cut, behind)

    def set_out(self, k, one, other):
        """Sets out a post beyond the side behind post k and answers the new number.

        NoPost, then NoFraction for a length not above nought, then Full.
        """
        n, _, lengths = self._state
        need_post(n, k)
        if not (is_length(one) and is_length(other)):
            raise NoFraction("a length is above nought")
        if n >= MOST_POSTS:
            raise Full("the mead has as many posts as it can have")
        behind = shifted(lengths, k, 1)
        behind[(k, k + 1)] = one
        behind[pair_of(k + 1, (k + 2) % (n + 1))] = other
        self._do(("set", k, one, other), n + 1, ropes_among(n + 1, behind), behind)
        return k + 1

    def draw(self, post):
        """Draws a post without ropes and answers the lengths of its two sides.

        NoPost, then Few, then HasRopes.
        """
        n, cut, lengths = self._state
        need_post(n, post)
        if n <= LEAST_POSTS:
            raise Few("the mead has as few posts as it can have")
        if any([post in rope for rope in cut]):
            raise HasRopes("a rope is at the post")
        to_ahead = lengths[pair_of((post - 1) % n, post)]
        to_next = lengths[pair_of(post, (post + 1) % n)]
        others = {tie: lengths[tie] for tie in lengths if post not in tie}
        behind = shifted(others, post, -1)
        self._do(("draw", post), n - 1, ropes_among(n - 1, behind), behind)
        return (to_ahead, to_next)

    def back(self):
        """Takes the last standing deed back and answers it; NoBack where there is none."""
        return self._step(self._standing, self._undone)

    def again(self):
        """Does the deed taken back last again and answers it; NoBack where there is none."""
        return self._step(self._undone, self._standing)

    def lead(self, number):
        """Turns ropes until the cutting has the number, and answers them; NoNumber."""
        n, cut, _ = self._state
        ropes = road(n, cut, cutting_at(n, number))
        for a, b in ropes:
            self.turn(a, b)
        return ropes

    def twin(self):
        """A Mead as this one is, its deeds with it."""
        n, cut, lengths = self._state
        other = Mead(n, cut, lengths)
        other._standing = list(self._standing)
        other._undone = list(self._undone)
        return other

    def alike_to(self, other):
        """True where the other Mead has as many posts and lengths alike, else False."""
        n, cut, lengths = self._state
        if other.posts() != n:
            return False
        return alike(n, cut, lengths, {(a, b): other.length(a, b) for a, b in lengths})

    def _do(self, deed, n, cut, lengths):
        """Keeps a new deed and the state behind it."""
        self._standing.append((deed, self._state))
        self._undone = []
        self._state = (n, cut, lengths)

    def _step(self, origin, goal):
        """Goes over the last deed of the one row, which leads to its state, to the other."""
        if not origin:
            raise NoBack("there is no such deed")
        deed, state = origin.pop()
        goal.append((deed, self._state))
        self._state = state
        return deed


def checked(n, cut, lengths):
    """A copy of the lengths; BadLength where they are not lengths of the cutting."""
    if sorted(lengths) != ties(n, cut):
        raise BadLength("there is one length for each tie and no other")
    if not all([is_length(lengths[tie]) for tie in lengths]):
        raise BadLength("a length is a fraction above nought")
    return {tie: lengths[tie] for tie in lengths}


def shifted(lengths, post, by):
    """The lengths, each post of a number above the post's with its number changed."""
    return {
        (a + by if a > post else a, b + by if b > post else b): lengths[(a, b)]
        for a, b in lengths
    }

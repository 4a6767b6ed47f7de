"""What the tests of Meads share."""

import unittest

from postmead.counts import how_many
from postmead.errors import NoBack
from postmead.mead import Mead
from tests.measures import some_lengths

CUT = [(0, 2), (0, 3)]


def made(n=5, cut=CUT, turn=1):
    return Mead(n, cut, some_lengths(n, cut, turn))


def state(mead):
    """All that is told of a Mead, but what can be done again, in copies."""
    return (mead.posts(), list(mead.ropes()), dict(mead.lengths()), list(mead.deeds()))


def whole(mead):
    """All that is told of a Mead, with what can be done again and taken back."""
    seen = [state(mead)]
    for move in ("again", "back"):
        other = mead.twin()
        while True:
            try:
                getattr(other, move)()
            except NoBack:
                break
            seen.append(state(other))
    return seen


def measures(mead):
    """The rows of all lengths between the Mead's posts."""
    n = mead.posts()
    return [
        [mead.length(a, b) if a != b else (0, 1) for b in range(n)] for a in range(n)]


def beyond(k):
    """How the posts are counted behind the setting out of a post behind post k."""
    return lambda post: post + 1 if post > k else post


def before(post, drawn):
    """The number that a post had ahead of the drawing of another one."""
    return post + 1 if post >= drawn else post


def some_deeds(mead, turn):
    """Does some deed that can be done, another one for another turn."""
    n, ropes = mead.posts(), mead.ropes()
    bare = [post for post in range(n) if not any(post in rope for rope in ropes)]
    kind = turn % 5
    if kind == 0 and ropes:
        mead.turn(*ropes[turn % len(ropes)])
    elif kind == 1 and n < 12:
        mead.set_out(turn % n, (turn + 1, 2 * turn + 3), (1, turn + 1))
    elif kind == 2:
        mead.stretch(turn % n, (turn + 2, turn + 1))
    elif kind == 3 and n > 3 and turn % 2:
        mead.draw(bare[turn % len(bare)])
    else:
        mead.lead(turn * 7 % how_many(n))


class Meads(unittest.TestCase):
    def refuses(self, refusal, mead, act):
        """Whether the act is refused and leaves all as it was."""
        ahead = whole(mead)
        with self.assertRaises(refusal) as caught:
            act(mead)
        self.assertIs(type(caught.exception), refusal)
        self.assertTrue(whole(mead) == ahead)

    def with_undone(self):
        """A Mead with deeds that stand and deeds taken back."""
        mead = made()
        mead.turn(0, 2)
        mead.stretch(1, (2, 3))
        mead.set_out(4, (1, 2), (3, 1))
        mead.turn(0, 3)
        mead.back()
        mead.back()
        return mead

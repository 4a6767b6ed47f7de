"""Lengths between any two posts, out of those of a cutting's ties."""

from itertools import combinations

from postmead.cuts import new_rope
from postmead.parts import NOUGHT, over, plus, times
from postmead.posts import need_two, pair_of
from postmead.ways import crossed


def measured(n, cut, lengths, a, b):
    """The length between two posts; NoPost where they are not two posts."""
    need_two(n, a, b)
    found = {tie: lengths[tie] for tie in lengths}
    reach(found, n, cut, a, b)
    return found[pair_of(a, b)]


def laid(n, cut, lengths, a, b):
    """The lengths behind the turning of rope (a, b); NoRope for what is no rope."""
    new = new_rope(n, cut, a, b)
    old = pair_of(a, b)
    found = {tie: lengths[tie] for tie in lengths if tie != old}
    found[new] = across(lengths, old, new)
    return found


def table(n, cut, lengths):
    """The rows of what is measured from each post to each."""
    found = {tie: lengths[tie] for tie in lengths}
    for a, b in combinations(range(n), 2):
        reach(found, n, cut, a, b)
    return [
        [NOUGHT if post == place else found[pair_of(post, place)] for place in range(n)]
        for post in range(n)
    ]


def reach(found, n, cut, a, b):
    """Adds the length between a and b to those found, with those that it is made of.

    The worth of the told sum is the same, as each told sum keeps the rule of
    four; but there can be many ways, and by the rule few lengths are enough.
    """
    ropes = crossed(n, cut, a, b)
    for rope, far in zip(ropes, far_posts(ropes, b)):
        pair = pair_of(a, far)
        if pair not in found:
            found[pair] = across(found, rope, pair)


def far_posts(ropes, b):
    """For each rope crossed on the way to b, the post beside it on the far side."""
    # Two ropes crossed one behind the other are ropes of one plot.
    return [
        end for rope, behind in zip(ropes, ropes[1:]) for end in behind if end not in rope
    ] + [b]


def across(lengths, rope, pair):
    """The length of a pair by the rule of four, out of the rope that it crosses.

    The lengths between the two posts of the one and those of the other are known.
    """
    a, b = pair
    c, d = rope
    one = times(lengths[pair_of(a, c)], lengths[pair_of(b, d)])
    other = times(lengths[pair_of(a, d)], lengths[pair_of(b, c)])
    return over(plus(one, other), lengths[rope])

"""Cuttings: n - 3 ropes among n posts in a ring, no two of which cross."""

from itertools import combinations

from postmead.errors import NoCutting, NoRope
from postmead.posts import pair_of

LEAST_POSTS = 3
MOST_POSTS = 12


def crosses(one, other):
    """True where the two pairs of posts cross, else False."""
    first, second = one
    if first in other or second in other:
        return False
    low, high = min(other), max(other)
    return (low < first < high) != (low < second < high)


def kept(n, ropes):
    """The cutting of the pairs; NoCutting where they are none of n posts."""
    if not LEAST_POSTS <= n <= MOST_POSTS:
        raise NoCutting("a mead has 3 to 12 posts")
    cut = sorted([pair_of(a, b) for a, b in ropes])
    if not is_cutting(n, cut):
        raise NoCutting("the pairs are no cutting")
    return cut


def is_cutting(n, pairs):
    """True where the pairs, each with the lesser post first, are a cutting of n posts."""
    if len(pairs) != n - 3 or len(set(pairs)) != len(pairs):
        return False
    if not all([is_rope(n, a, b) for a, b in pairs]):
        return False
    return not any([crosses(one, other) for one, other in combinations(pairs, 2)])


def is_rope(n, a, b):
    """True where a is less than b and both are posts of n that are no neighbours."""
    return 0 <= a and a + 2 <= b and b < n and (a, b) != (0, n - 1)


def sides(n):
    """The sides between n posts."""
    return [(post, post + 1) for post in range(n - 1)] + [(0, n - 1)]


def ties(n, cut):
    """All ties of the cutting, its sides and its ropes, rising."""
    return sorted(sides(n) + cut)


def plots(n, cut):
    """All plots of the cutting, three posts each, rising."""
    tied = ties(n, cut)
    return [
        (a, b, c)
        for a, b, c in combinations(range(n), 3)
        if (a, b) in tied and (b, c) in tied and (a, c) in tied
    ]


def beside(n, cut, a, b):
    """The posts that make a plot with tie (a, b), rising; NoRope for what is no tie."""
    tied = ties(n, cut)
    if pair_of(a, b) not in tied:
        raise NoRope("the two posts have no tie")
    return [
        post
        for post in range(n)
        if pair_of(a, post) in tied and pair_of(b, post) in tied
    ]


def new_rope(n, cut, a, b):
    """The rope that turning rope (a, b) lays; NoRope for what is no rope of the cutting."""
    if pair_of(a, b) not in cut:
        raise NoRope("the two posts have no rope")
    return tuple(beside(n, cut, a, b))


def turned(n, cut, a, b):
    """The cutting behind the turning of rope (a, b); NoRope for what is no rope of it."""
    laid = new_rope(n, cut, a, b)
    old = pair_of(a, b)
    return sorted([rope for rope in cut if rope != old] + [laid])


def ropes_among(n, pairs):
    """The ropes of n posts among the pairs, rising."""
    return sorted([(a, b) for a, b in pairs if is_rope(n, a, b)])

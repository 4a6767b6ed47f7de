"""Roads: ropes turned one behind the other, from cutting to cutting."""

from postmead.cuts import new_rope, ties, turned
from postmead.posts import need_post, pair_of


def to_fan(n, cut, post):
    """A shortest road from the cutting to the fan of the post; NoPost where it is not there."""
    need_post(n, post)
    return [old for old, _ in fan_turnings(n, cut, post)]


def road(n, one, other):
    """A road from the one cutting to the other, by way of a fan where they are unlike."""
    if one == other:
        return []
    # The fan with the fewest turnings on both ways together keeps the bound of every post.
    post = busiest(n, one + other)
    ahead = [old for old, _ in fan_turnings(n, one, post)]
    behind = [new for _, new in fan_turnings(n, other, post)]
    return ahead + behind[::-1]


def fan_turnings(n, cut, post):
    """Turnings from the cutting to the post's fan, each the old rope and the new one."""
    turnings = []
    rope = rope_facing(n, cut, post)
    while rope is not None:
        a, b = rope
        turnings.append((rope, new_rope(n, cut, a, b)))
        cut = turned(n, cut, a, b)
        rope = rope_facing(n, cut, post)
    return turnings


def rope_facing(n, cut, post):
    """A rope that has the post beside it, or None: the cutting is then the post's fan.

    Turning such a rope lays one at the post, and takes none from it.
    """
    tied = ties(n, cut)
    for a, b in cut:
        if pair_of(a, post) in tied and pair_of(b, post) in tied:
            return (a, b)
    return None


def busiest(n, ropes):
    """The least post at which most of the ropes are."""
    ends = [end for rope in ropes for end in rope]
    return max(list(range(n)), key=lambda post: ends.count(post))

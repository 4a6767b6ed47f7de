"""Ways from post to post along the ties of a cutting, and the letter sums of them."""

from postmead.cuts import crosses, ties
from postmead.posts import need_two, pair_of


def ways(n, cut, a, b):
    """All ways from post a to post b, rising; NoPost where they are not two posts."""
    need_two(n, a, b)
    places = {rope: place for place, rope in enumerate(crossed(n, cut, a, b))}
    near = neighbours(n, cut)
    whole = []
    # Begun ways: the row of posts, and the place of the last crossing rope in it.
    # Each has an even number of steps.
    begun = [((a,), -1)]
    while begun:
        odd = stepped(near, places, begun, False)
        # No way goes on behind b: no rope at b crosses (a, b).
        whole.extend([row for row, _ in odd if row[-1] == b])
        begun = stepped(near, places, odd, True)
    return sorted(whole)


def told(n, cut, a, b):
    """The letter sum of all ways from a to b; NoPost where they are not two posts."""
    return sorted([(power_row(way), 1) for way in ways(n, cut, a, b)])


def crossed(n, cut, a, b):
    """The ropes of the cutting that cross (a, b), the one nearest to a first."""
    found = []
    for rope in cut:
        if crosses(rope, (a, b)):
            ahead, behind = sorted([(post - a) % n for post in rope])
            # A nearer rope has no greater a number ahead and no less a one behind.
            found.append((ahead - behind, rope))
    return [rope for _, rope in sorted(found)]


def neighbours(n, cut):
    """A dict from each post to the posts that it is tied to."""
    near = {post: [] for post in range(n)}
    for a, b in ties(n, cut):
        near[a].append(b)
        near[b].append(a)
    return near


def stepped(near, places, begun, even):
    """The begun ways with one step more, each in every manner that may be.

    The crossing ropes have places; they come in rising places, each at most once.
    """
    longer = []
    for row, last in begun:
        for post in near[row[-1]]:
            tie = pair_of(row[-1], post)
            if tie in places:
                if places[tie] > last:
                    longer.append((row + (post,), places[tie]))
            elif not even and tie not in steps(row):
                longer.append((row + (post,), last))
    return longer


def steps(row):
    """The ties along which the row of posts goes."""
    return [pair_of(a, b) for a, b in zip(row, row[1:])]


def power_row(way):
    """The power row of the way: odd steps have the power 1, even ones -1."""
    return tuple(sorted([
        (tie, -1 if place % 2 else 1) for place, tie in enumerate(steps(way))
    ]))

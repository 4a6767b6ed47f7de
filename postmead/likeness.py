"""Likeness: the ratios of ropes, and posts stretched."""

from postmead.cuts import new_rope, plots
from postmead.errors import NoFraction
from postmead.parts import ONE, is_length, over, plus, times
from postmead.posts import need_post, pair_of


def ratio(n, cut, lengths, a, b):
    """The ratio of rope (a, b) under the lengths; NoRope for what is no rope."""
    forward, backward = ties_round(n, cut, a, b)
    return over(product_of(lengths, forward), product_of(lengths, backward))


def ratios(n, cut, lengths):
    """A dict from each rope to its ratio under the lengths."""
    return {(a, b): ratio(n, cut, lengths, a, b) for a, b in cut}


def turned_ratios(n, cut, rates, a, b):
    """The ratios behind the turning of rope (a, b); NoRope for what is no rope."""
    forward, backward = ties_round(n, cut, a, b)
    old = pair_of(a, b)
    rate = rates[old]
    more = plus(ONE, rate)
    made = {rope: rates[rope] for rope in rates if rope != old}
    for near, factor in ((forward, more), (backward, over(rate, more))):
        for tie in near:
            if tie in made:
                made[tie] = times(made[tie], factor)
    made[new_rope(n, cut, a, b)] = over(ONE, rate)
    return made


def ties_round(n, cut, a, b):
    """The forward ties of rope (a, b) and its backward ties; NoRope for what is no rope."""
    low, high = pair_of(a, b)
    one, other = new_rope(n, cut, a, b)
    between, beyond = (one, other) if low < one < high else (other, one)
    forward = (pair_of(low, between), pair_of(high, beyond))
    backward = (pair_of(between, high), pair_of(beyond, low))
    return forward, backward


def product_of(lengths, pair):
    """The lengths of two ties multiplied."""
    one, other = pair
    return times(lengths[one], lengths[other])


def stretched(n, lengths, post, factor):
    """The lengths with each one at the post multiplied by the factor.

    NoPost for a post that is not there, then NoFraction for a factor not above nought.
    """
    need_post(n, post)
    if not is_length(factor):
        raise NoFraction("a factor is above nought")
    return {
        tie: times(lengths[tie], factor) if post in tie else lengths[tie]
        for tie in lengths
    }


def stretches(n, cut, one, other):
    """The posts' fractions that lead from the one lengths to the others, or None."""
    if not alike(n, cut, one, other):
        return None
    grown = {tie: over(other[tie], one[tie]) for tie in one}
    found = {}
    for plot in plots(n, cut):
        for post in plot:
            found[post] = post_stretch(grown, plot, post)
    return [found[post] for post in range(n)]


def post_stretch(grown, plot, post):
    """The fraction of a post of the plot, by how many times each tie has grown."""
    # Each growth squared is the product of its two posts' fractions; in growths of
    # the two ties at the post over that of the third, the two other posts fall out.
    a, b = [end for end in plot if end != post]
    return over(times(grown[pair_of(a, post)], grown[pair_of(b, post)]), grown[(a, b)])


def alike(n, cut, one, other):
    """True where all ropes have the same ratios under both lengths, else False."""
    return ratios(n, cut, one) == ratios(n, cut, other)

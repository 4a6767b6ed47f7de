"""What the tests of lengths share: lengths found by the rule of four, apart from the program."""

from fractions import Fraction
from itertools import combinations

from tests.cuttings import SOME, ring_sides, zigzag

ZIGZAGS = [(n, zigzag(n)) for n in (6, 9, 12)]
CUTTINGS = SOME + ZIGZAGS


def all_ties(n, cut):
    return sorted(ring_sides(n) + cut)


def parts(number):
    """The fraction of the Python library as the program tells it."""
    return (number.numerator, number.denominator)


def some_lengths(n, cut, turn=0):
    """Lengths for the ties, unlike ones for each turn."""
    return {
        (a, b): parts(Fraction(2 + (3 * a + 5 * b + 7 * turn) % 11, 1 + (a + b * b + turn) % 5))
        for a, b in all_ties(n, cut)
    }


def ones(n, cut):
    return {tie: (1, 1) for tie in all_ties(n, cut)}


def crossing_pair(known, four):
    """A pair of the four that is not known and follows from the others, and its length."""
    a, b, c, d = four
    round_them = [(a, b), (c, d), (b, c), (a, d)]
    for pair, other in (((a, c), (b, d)), ((b, d), (a, c))):
        if pair not in known and all(one in known for one in round_them + [other]):
            ab, cd, bc, ad = [known[one] for one in round_them]
            return pair, (ab * cd + bc * ad) / known[other]
    return None


def all_lengths(n, lengths):
    """The lengths of all pairs of posts, as fractions of the Python library."""
    known = {tie: Fraction(*length) for tie, length in lengths.items()}
    while len(known) < n * (n - 1) // 2:
        for four in combinations(range(n), 4):
            found = crossing_pair(known, four)
            if found is not None:
                known[found[0]] = found[1]
    return known


def all_table(n, lengths):
    known = all_lengths(n, lengths)
    return [
        [(0, 1) if a == b else parts(known[min(a, b), max(a, b)]) for b in range(n)]
        for a in range(n)
    ]

"""Tables: the lengths between each post and each, and which of them are of some mead."""

from itertools import combinations

from postmead.cuts import LEAST_POSTS, MOST_POSTS, ties
from postmead.errors import BadPairs, BadTable, NotMead
from postmead.parts import NOUGHT, is_length, less, over, times


def looked(table):
    """The number of rows; BadTable where the rows are no table."""
    n = len(table)
    if not LEAST_POSTS <= n <= MOST_POSTS:
        raise BadTable("a table has 3 to 12 rows")
    if any([len(row) != n for row in table]):
        raise BadTable("each row has as many places as there are rows")
    if any([table[post][post] != NOUGHT for post in range(n)]):
        raise BadTable("each post is nought away from itself")
    if not all([is_twin_length(table, i, k) for i, k in combinations(range(n), 2)]):
        raise BadTable("two posts have one fraction above nought between them")
    return n


def is_twin_length(table, i, k):
    """True where a fraction above nought stands at row i, place k and at row k, place i."""
    return table[i][k] == table[k][i] and is_length(table[i][k])


def broken(table):
    """None, or the least four posts that break the rule of four; BadTable for no table."""
    n = looked(table)
    # Where posts 0 and 1 keep the rule with every two others, the pairs that `pairs`
    # tells give each length of the table, and lengths made of pairs keep the rule
    # everywhere. So where any four posts break it, four with 0 and 1 do.
    for c, d in combinations(range(2, n), 2):
        if not keeps_rule(table, 0, 1, c, d):
            return (0, 1, c, d)
    return None


def keeps_rule(table, a, b, c, d):
    """True where the lengths between the four posts, rising, keep the rule of four."""
    # Lowest terms are slow to find where numbers are long, and not needed to compare.
    top, bottom = multiplied(table[a][c], table[b][d])
    one_top, one_bottom = multiplied(table[a][b], table[c][d])
    other_top, other_bottom = multiplied(table[b][c], table[a][d])
    both = one_top * other_bottom + other_top * one_bottom
    return top * one_bottom * other_bottom == both * bottom


def multiplied(one, other):
    """The two fractions multiplied: top and bottom, not in lowest terms."""
    return one[0] * other[0], one[1] * other[1]


def pairs(table):
    """Pairs of fractions that spread the table; BadTable, or NotMead where it is broken."""
    four = broken(table)
    if four is not None:
        raise NotMead(four)
    first, second = table[0], table[1]
    side = first[1]
    # The p of a post is its length to post 0, its q that to post 1 over the side
    # between the two; for post 0 itself that is less than nought.
    begun = [(NOUGHT, (-1, 1)), (side, NOUGHT)]
    return begun + [(p, over(q, side)) for p, q in zip(first[2:], second[2:])]


def of_pairs(rows):
    """The table that the pairs of fractions make; BadPairs where a length is not above nought."""
    n = len(rows)
    made = [[NOUGHT] * n for _ in range(n)]
    for i, k in combinations(range(n), 2):
        length = spread(rows[i], rows[k])
        if not is_length(length):
            raise BadPairs((i, k))
        made[i][k] = made[k][i] = length
    return made


def spread(one, other):
    """The length between two posts out of their pairs, the post of lesser number first."""
    return less(times(one[0], other[1]), times(other[0], one[1]))


def cut_lengths(table, cut):
    """The lengths that stand at the cutting's ties; BadTable for no table."""
    n = looked(table)
    return {(a, b): table[a][b] for a, b in ties(n, cut)}

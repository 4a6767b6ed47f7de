"""What the tests of cuttings share: cuttings found by trial, apart from the program."""

from itertools import combinations

FAR = 10 ** 5000
# Several cuttings of 3 to 12 posts, among them fans, a zigzag and a whirl.
SOME = [
    (3, []),
    (4, [(0, 2)]),
    (4, [(1, 3)]),
    (5, [(0, 2), (0, 3)]),
    (5, [(1, 3), (1, 4)]),
    (6, [(0, 2), (0, 4), (2, 4)]),
    (6, [(0, 2), (2, 5), (3, 5)]),
    (7, [(0, 2), (0, 4), (0, 5), (2, 4)]),
    (8, [(1, 7), (2, 6), (2, 7), (3, 5), (3, 6)]),
    (9, [(0, 2), (0, 6), (2, 4), (2, 6), (4, 6), (6, 8)]),
    (10, [(0, 2), (2, 4), (2, 8), (2, 9), (4, 6), (4, 8), (6, 8)]),
    (11, [(0, 5), (1, 5), (2, 5), (3, 5), (5, 7), (5, 8), (5, 9), (5, 10)]),
    (12, [(0, 4), (0, 8), (1, 3), (1, 4), (4, 8), (5, 7), (5, 8), (8, 11), (9, 11)]),
]


def ring_sides(n):
    return sorted({(min(k, (k + 1) % n), max(k, (k + 1) % n)) for k in range(n)})


def ring_ropes(n):
    return [pair for pair in combinations(range(n), 2) if pair not in ring_sides(n)]


def apart(one, other):
    """Whether two pairs, each with the lesser post first, do not cross."""
    (a, b), (c, d) = one, other
    return not (a < c < b < d or c < a < d < b)


def all_cuttings(n):
    return [
        list(ropes)
        for ropes in combinations(ring_ropes(n), n - 3)
        if all(apart(one, other) for one, other in combinations(ropes, 2))
    ]


def fan(n, post):
    return [rope for rope in ring_ropes(n) if post in rope]


def flipped(n, cut, rope):
    """The cutting behind the turning of the rope: the one other that keeps all other ropes."""
    rest = [other for other in cut if other != rope]
    laid = [
        other
        for other in ring_ropes(n)
        if other not in cut and all(apart(other, one) for one in rest)
    ]
    (new,) = laid
    return sorted(rest + [new])


def zigzag(n):
    """The cutting whose ropes go to and fro between the two halves of the ring."""
    ropes = [(0, 2)] if n > 3 else []
    low, high = 0, 2
    while len(ropes) < n - 3:
        if len(ropes) % 2:
            low = (low - 1) % n
        else:
            high = high + 1
        ropes.append((min(low, high), max(low, high)))
    return sorted(ropes)

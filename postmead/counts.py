"""Cuttings and their numbers, told part by part."""

from postmead.cuts import ties
from postmead.errors import NoNumber


def how_many(n):
    """How many cuttings n posts have, one where they are only two."""
    # These are Catalan's numbers: each follows from the one before without a rest.
    many = 1
    for posts in range(3, n + 1):
        many = many * (4 * posts - 10) // (posts - 1)
    return many


def cutting_at(n, number):
    """The cutting of the number; NoNumber where none has it."""
    if not 0 <= number < how_many(n):
        raise NoNumber("no cutting has the number")
    # The first tie of the whole is (0, n - 1), a side.
    return sorted(part_at(0, n - 1, number)[1:])


def part_at(low, high, number):
    """The ropes of a part of posts low to high by its number, the tie (low, high) first."""
    for middle in range(low + 1, high):
        many = with_middle(low, middle, high)
        if number < many:
            lower, upper = divmod(number, part_count(middle, high))
            return [(low, high)] + part_at(low, middle, lower) + part_at(middle, high, upper)
        number -= many
    # Two neighbours: their tie is a side.
    return []


def number_of(n, cut):
    """The number of the cutting."""
    tied = {tie: True for tie in ties(n, cut)}
    return part_number(tied, 0, n - 1)


def part_number(tied, low, high):
    """The number of a part of posts low to high, the ties being the keys of the dict."""
    number = 0
    for middle in range(low + 1, high):
        if (low, middle) in tied and (middle, high) in tied:
            lower = part_number(tied, low, middle)
            upper = part_number(tied, middle, high)
            return number + lower * part_count(middle, high) + upper
        number += with_middle(low, middle, high)
    return number


def with_middle(low, middle, high):
    """How many parts of posts low to high have the post middle beside tie (low, high)."""
    return part_count(low, middle) * part_count(middle, high)


def part_count(low, high):
    """How many parts there are of posts low to high."""
    return how_many(high - low + 1)

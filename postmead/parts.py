"""Fractions: tuples (top, bottom) in lowest terms, the bottom above nought."""

from math import gcd

from postmead.errors import NoFraction
from postmead.figures import whole_read

NOUGHT = (0, 1)
ONE = (1, 1)


def lowest(top, bottom):
    """The fraction of two whole numbers; NoFraction where the bottom is nought."""
    # No message tells the numbers: Python refuses to write very long ones.
    if bottom == 0:
        raise NoFraction("the bottom is nought")
    divisor = gcd(top, bottom)
    if bottom < 0:
        divisor = -divisor
    return (top // divisor, bottom // divisor)


def plus(one, other):
    """The two fractions added."""
    return lowest(one[0] * other[1] + other[0] * one[1], one[1] * other[1])


def less(one, other):
    """The first fraction less the second."""
    return lowest(one[0] * other[1] - other[0] * one[1], one[1] * other[1])


def times(one, other):
    """The two fractions multiplied."""
    return lowest(one[0] * other[0], one[1] * other[1])


def over(one, other):
    """The first fraction divided by the second; NoFraction where that is nought."""
    return lowest(one[0] * other[1], one[1] * other[0])


def is_part(one):
    """True where the tuple of two whole numbers is a fraction."""
    return one[1] > 0 and gcd(one[0], one[1]) == 1


def is_length(one):
    """True where the tuple of two whole numbers is a fraction above nought."""
    return one[0] > 0 and is_part(one)


def smaller(one, other):
    """True where the first fraction is less than the second, else False."""
    return one[0] * other[1] < other[0] * one[1]


def part_text(one):
    """The fraction as a text."""
    return f"{one[0]}/{one[1]}"


def part_read(line):
    """The fraction that the text writes; NoFraction where it writes none."""
    words = line.split("/")
    if len(words) != 2:
        raise NoFraction("a fraction has one stroke")
    top = whole_read(words[0])
    bottom = whole_read(words[1])
    if top is None or bottom is None:
        raise NoFraction("a fraction has a number on each side of its stroke")
    if not is_part((top, bottom)):
        raise NoFraction("the fraction is not in lowest terms")
    return (top, bottom)

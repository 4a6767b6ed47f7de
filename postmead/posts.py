"""Two posts as they are told, and posts that have to be there."""

from postmead.errors import NoPost


def pair_of(a, b):
    """The pair of the two numbers, in whichever order they come."""
    return (min(a, b), max(a, b))


def need_post(n, post):
    """NoPost where none of n posts has the number."""
    if not 0 <= post < n:
        raise NoPost("the post is not there")


def need_two(n, a, b):
    """NoPost where the two numbers are not those of two of n posts."""
    need_post(n, a)
    need_post(n, b)
    if a == b:
        raise NoPost("the two posts are one")

"""Two posts as they are told: a pair, the lesser one first."""


def pair_of(a, b):
    """The pair of the two numbers, in whichever order they come."""
    return (min(a, b), max(a, b))

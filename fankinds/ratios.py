"""Fractions as pairs (n, d) of numbers above 0 without a common divisor."""

ONE = (1, 1)


def reduced(n, d):
    """The fraction n / d, without a common divisor."""
    common, rest = n, d
    while rest > 0:
        common, rest = rest, common % rest
    return (n // common, d // common)


def times(one, other):
    """Two fractions multiplied."""
    return reduced(one[0] * other[0], one[1] * other[1])


def is_less(one, other):
    """Whether the one fraction is below the other."""
    return one[0] * other[1] < other[0] * one[1]

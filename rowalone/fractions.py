"""Fractions: tuples of a top and a bottom above 0 in lowest terms."""

from math import gcd

from rowalone.errors import InvalidNumber, Refused
from rowalone.kinds import is_whole


def fraction_of(top, bottom):
    """The quotient of two integers."""
    if bottom == 0:
        raise InvalidNumber("zero")
    divisor = gcd(top, bottom)
    if bottom < 0:
        divisor = -divisor
    return (top // divisor, bottom // divisor)


def is_fraction(value):
    """Whether any value is a fraction."""
    if not isinstance(value, tuple) or len(value) != 2:
        return False
    top, bottom = value
    if not is_whole(top) or not is_whole(bottom):
        return False
    return bottom > 0 and gcd(top, bottom) == 1


def plus(one, other):
    """The sum of two fractions."""
    return fraction_of(one[0] * other[1] + other[0] * one[1], one[1] * other[1])


def minus(one, other):
    """The difference of two fractions."""
    return fraction_of(one[0] * other[1] - other[0] * one[1], one[1] * other[1])


def times(one, other):
    """The product of two fractions."""
    return fraction_of(one[0] * other[0], one[1] * other[1])


def ratio(one, other):
    """The quotient of two fractions."""
    return fraction_of(one[0] * other[1], one[1] * other[0])


def less(one, other):
    """Whether a fraction is below another one."""
    return one[0] * other[1] < other[0] * one[1]


def least_of(some):
    """The least one of some fractions."""
    if not some:
        raise Refused("none")
    least = some[0]
    for value in some:
        if less(value, least):
            least = value
    return least


def greatest_of(some):
    """The greatest one of some fractions."""
    if not some:
        raise Refused("none")
    greatest = some[0]
    for value in some:
        if less(greatest, value):
            greatest = value
    return greatest


def weighed(coefficients, point):
    """The sum of the products of integers and fractions at equal places."""
    top = 0
    bottom = 1
    for coefficient, value in zip(coefficients, point):
        if coefficient != 0:
            top = top * value[1] + coefficient * value[0] * bottom
            bottom = bottom * value[1]
    return fraction_of(top, bottom)


def negative(value):
    """A fraction with the other sign; None, no end, stays."""
    if value is None:
        return None
    return (-value[0], value[1])


def simplest(low, high):
    """The fraction with the least bottom and the least size of the top between two ends."""
    if low is not None and high is not None and less(high, low):
        raise Refused("none")
    if low is not None and low[0] > 0:
        return _simplest_above(low, high)
    if high is not None and high[0] < 0:
        return negative(_simplest_above(negative(high), negative(low)))
    return (0, 1)


def _simplest_above(low, high):
    """The same where the low is above 0."""
    wholes = []
    whole = -(-low[0] // low[1])
    while high is not None and whole * high[1] > high[0]:
        # Without an integer between them both ends have the same integer part,
        # and the simplest rest is one over the simplest fraction between one over the rests.
        part = whole - 1
        wholes.append(part)
        low, high = (high[1], high[0] - part * high[1]), (low[1], low[0] - part * low[1])
        whole = -(-low[0] // low[1])
    top = whole
    bottom = 1
    for part in reversed(wholes):
        top, bottom = part * top + bottom, top
    return (top, bottom)

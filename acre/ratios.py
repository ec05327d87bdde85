"""Fractions: tuples (top, bottom) in lowest terms, bottom from 1 on."""

from acre.errors import NoNumber
from acre.wholes import divisor, is_whole


def fraction(top, bottom):
    if not is_whole(top) or not is_whole(bottom):
        raise NoNumber("a fraction is made of two whole numbers")
    if bottom == 0:
        raise NoNumber("the bottom of a fraction is not 0")
    factor = divisor(top, bottom)
    # Dividing by a number below 0 turns both signs, so the bottom ends above 0.
    if bottom < 0:
        factor = -factor
    return (top // factor, bottom // factor)


def plus(one, other):
    return fraction(one[0] * other[1] + other[0] * one[1], one[1] * other[1])


def minus(one, other):
    return fraction(one[0] * other[1] - other[0] * one[1], one[1] * other[1])


def times(one, other):
    return fraction(one[0] * other[0], one[1] * other[1])


def half(one):
    return fraction(one[0], one[1] * 2)


# Both bottoms are above 0, so multiplying by them keeps the order.
def under(one, other):
    return one[0] * other[1] < other[0] * one[1]


# Neighbours two by two, so that long numbers meet only in the last steps.
def total(some):
    sums = list(some)
    while len(sums) > 1:
        pairs = [plus(sums[k], sums[k + 1]) for k in range(0, len(sums) - 1, 2)]
        sums = pairs + sums[2 * len(pairs):]
    return sums[0] if len(sums) == 1 else (0, 1)

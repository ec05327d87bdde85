"""Counts: how many stretches stand above a point, and so at which hand of a stretch land lies."""

from acre.points import amid, turn
from acre.stretches import lies_on


def is_upright(S):
    return S[0][0] * S[1][2] == S[1][0] * S[0][2]


def above(stretches, P):
    return len([S for S in stretches if spans(S, P) and turn(S[0], S[1], P) < 0])


# Whether P lies not farther left than the first point and farther left than the second one; no upright does so.
def spans(S, P):
    if P[0] * S[0][2] < S[0][0] * P[2]:
        return False
    return P[0] * S[1][2] < S[1][0] * P[2]


def hands(S, stretches):
    middle = amid(S[0], S[1])
    over = above(stretches, middle)
    on = len([other for other in stretches if lies_on(middle, other)])
    first = over % 2 == 1
    second = (over + on) % 2 == 1
    if is_upright(S):
        return (second, first)
    return (first, second)

"""Stretches: tuples of two unlike points, the one that comes before first."""

from acre.errors import NoStretch
from acre.points import before, line_of, met, side_of, turn


def stretch(P, Q):
    if P == Q:
        raise NoStretch("a stretch has two unlike points")
    if before(P, Q):
        return (P, Q)
    return (Q, P)


def stretches_of(fences):
    return [stretch(P, Q) for P, Q in fences]


def ends_of(stretches):
    ends = []
    for S in stretches:
        ends.extend(S)
    return ends


def lies_on(P, S):
    if turn(S[0], S[1], P) != 0:
        return False
    return not before(P, S[0]) and not before(S[1], P)


def meet(one, other):
    line = line_of(one[0], one[1])
    sides = (side_of(line, other[0]), side_of(line, other[1]))
    if sides == (0, 0):
        return meet_on_line(one, other)
    if sides[0] == sides[1]:
        return None
    other_line = line_of(other[0], other[1])
    other_sides = (side_of(other_line, one[0]), side_of(other_line, one[1]))
    if other_sides[0] == other_sides[1]:
        return None
    # An end that is the spot needs no reckoning, and is in lowest terms as it stands.
    for end, side in zip(other + one, sides + other_sides):
        if side == 0:
            return ("spot", end)
    return ("spot", met(line, other_line))


# Of two that lie on one line.
def meet_on_line(one, other):
    first = other[0] if before(one[0], other[0]) else one[0]
    second = one[1] if before(one[1], other[1]) else other[1]
    if before(second, first):
        return None
    if first == second:
        return ("spot", first)
    return ("part", (first, second))

"""Hulls: the least ring without bays round some points."""

from acre.points import in_order, turn


def hull(points):
    ordered = in_order(points)
    if len(ordered) < 3:
        return ordered
    low = half_round(ordered)
    high = half_round(list(reversed(ordered)))
    # Each half ends where the other one begins.
    return low[:-1] + high[:-1]


def half_round(ordered):
    chain = []
    for P in ordered:
        while len(chain) > 1 and turn(chain[-2], chain[-1], P) <= 0:
            chain.pop()
        chain.append(P)
    return chain

"""Nests: which ring of a land lies right round which."""

from acre.counts import above
from acre.lands import sides_of
from acre.points import amid


def lies_in(ring, other):
    return is_round(sides_of([other]), amid(ring[0], ring[1]))


def is_round(sides, P):
    return above(sides, P) % 2 == 1


def nest(some):
    sides = [sides_of([ring]) for ring in some]
    middles = [amid(ring[0], ring[1]) for ring in some]
    holders = []
    for number, middle in enumerate(middles):
        others = [k for k in range(len(some)) if k != number]
        holders.append([k for k in others if is_round(sides[k], middle)])
    return [innermost(row, holders) for row in holders]


# Of the rings that hold one, that which all others of them hold.
def innermost(row, holders):
    for number in row:
        if all([k in holders[number] for k in row if k != number]):
            return number
    return None

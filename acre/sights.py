"""Sights: what of a land is seen from a point in it."""

from acre.joins import join
from acre.lands import land_of, where
from acre.points import amid, before, line_of, met, side_of, turn
from acre.rows import halved
from acre.triangles import corners_of


def sight(land, P):
    if where(land, P) != 1:
        return []
    ways = ways_from(P, corners_of(land))
    return [seen_between(land, P, ways[k], ways[(k + 1) % len(ways)]) for k in range(len(ways))]


# One corner for each way from P, in the order in which one turns to the left, from that of the first corner on.
def ways_from(P, corners):
    ways = [corners[0]]
    for corner in corners[1:]:
        place = halved(len(ways), lambda k: not is_farther(P, corners[0], corner, ways[k]))
        if place == len(ways) or is_farther(P, corners[0], ways[place], corner):
            ways = ways[:place] + [corner] + ways[place:]
    return ways


# Whether who looks from P to the first corner and turns to the left comes to the other one before the one.
def is_farther(P, first, one, other):
    part = part_round(P, first, one)
    other_part = part_round(P, first, other)
    if part != other_part:
        return part > other_part
    return turn(P, other, one) > 0


# 0 for the way of the first corner, 1 for what is to the left of it, 2 for the way straight back, 3 for the rest.
def part_round(P, first, corner):
    side = turn(P, first, corner)
    if side == 1:
        return 1
    if side == -1:
        return 3
    return 0 if before(P, first) == before(P, corner) else 2


# No corner lies between two neighbouring ways: so a fence between them goes from the one to the other.
def seen_between(land, P, one, other):
    middle = amid(one, other)
    fences = [fence for fence in land if stands_ahead(P, middle, fence)]
    line = nearest_line(P, middle, [line_of(A, B) for A, B in fences])
    return (P, met(line_of(P, one), line), met(line_of(P, other), line))


# Whether the way from P through another point, on which no end of the fence lies, crosses the fence.
def stands_ahead(P, through, fence):
    line = line_of(P, through)
    side = side_of(line, fence[0])
    if side == side_of(line, fence[1]):
        return False
    return turn(fence[0], fence[1], P) == -side


# Of lines that a way from P crosses, each elsewhere, the one that it crosses first.
def nearest_line(P, through, lines):
    way = line_of(P, through)
    best = lines[0]
    spot = met(way, best)
    for line in lines[1:]:
        if side_of(line, spot) != side_of(line, P):
            best = line
            spot = met(way, best)
    return best


def seen_from(land, P):
    return land_of([list(three) for three in sight(land, P)])


def lit(land, points):
    told = []
    for P in points:
        told = join(told, seen_from(land, P))
    return told

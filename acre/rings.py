"""A land told as rings."""

from acre.points import before, by_points, turn


def rings_of(land):
    leaving = leaving_of(land)
    gone = {}
    rings = []
    for fence in land:
        if fence not in gone:
            rings.extend(way_round(fence, leaving, gone))
    return by_points([from_least(ring) for ring in rings])


# For each point the points to which fences leave it.
def leaving_of(land):
    leaving = {}
    for P, Q in land:
        leaving.setdefault(P, []).append(Q)
    return leaving


# The rings of the way that begins with a fence; what it goes along is noted.
def way_round(start, leaving, gone):
    rings = []
    way = [start[0]]
    places = {start[0]: 0}
    fence = start
    while True:
        gone[fence] = True
        P = fence[1]
        fence = (P, first_right(P, fence[0], leaving[P]))
        if fence == start:
            rings.append(way)
            return rings
        if P in places:
            ring = way[places[P]:]
            rings.append(ring)
            way = way[:places[P] + 1]
            for Q in ring[1:]:
                places.pop(Q)
        else:
            places[P] = len(way)
            way.append(P)


# Of some tips, the one that is met first by who stands at P, looks to Q and turns to the right hand.
def first_right(P, Q, tips):
    best = tips[0]
    for tip in tips[1:]:
        if is_met_sooner(P, Q, tip, best):
            best = tip
    return best


def is_met_sooner(P, Q, one, other):
    side = turn(P, Q, one)
    other_side = turn(P, Q, other)
    # Who turns to the right meets what lies at the right hand, then what lies straight behind, then the rest.
    if side != other_side:
        return side < other_side
    return turn(P, one, other) < 0


def from_least(ring):
    least = 0
    for k in range(len(ring)):
        if before(ring[k], ring[least]):
            least = k
    return ring[least:] + ring[:least]

"""Lands: sorted lists of fences, straight ways (P, Q) with land at the left hand and none at the right hand."""

from acre.counts import above, flanks
from acre.points import by_points, turn
from acre.ratios import fraction, half, total
from acre.stretches import lies_on, stretch, stretches_of
from acre.sweep import pieces, stops


def sides_of(rings):
    sides = []
    for ring in rings:
        for P, Q in zip(ring, ring[1:] + ring[:1]):
            if P != Q:
                sides.append(stretch(P, Q))
    return sides


def fences_of(rows):
    fences = []
    for S, left, right in rows:
        if left and not right:
            fences.append((S[0], S[1]))
        if right and not left:
            fences.append((S[1], S[0]))
    return by_points(straightened(fences))


# What is put together leaves the other ends as they were, so each straight row of fences is gone along but once.
def straightened(fences):
    onward = straight_on(fences)
    told = []
    for first, second in fences:
        if first not in onward:
            last = second
            while last in onward:
                last = onward[last]
            told.append((first, last))
    return told


# For each point that is an end of just two fences, which go on straight there: the point to which the way goes on.
def straight_on(fences):
    coming = {}
    going = {}
    for P, Q in fences:
        going.setdefault(P, []).append(Q)
        coming.setdefault(Q, []).append(P)
    onward = {}
    for P in going:
        if len(going[P]) == 1 and len(coming.get(P, [])) == 1:
            if turn(coming[P][0], P, going[P][0]) == 0:
                onward[P] = going[P][0]
    return onward


# A piece on which an even number of sides lies has the same at both its hands, and changes nothing for others.
def land_of(rings):
    odd = [S for S, owners in pieces(sides_of(rings)) if len(owners) % 2 == 1]
    return fences_of([(S, left == 1, right == 1) for S, left, right in flanked(odd)])


def flanked(stretches):
    told = flanks(stretches, [1 for S in stretches])
    return [(stretches[k], told[k][0], told[k][1]) for k in range(len(stretches))]


def where(land, P):
    sides = stretches_of(land)
    if any([lies_on(P, S) for S in sides]):
        return 0
    if above(sides, P) % 2 == 1:
        return 1
    return -1


def area(land):
    return half(total([fraction(P[0] * Q[1] - Q[0] * P[1], P[2] * Q[2]) for P, Q in land]))


def is_land(fences):
    if fences != by_points(fences) or not is_balanced(fences) or len(straight_on(fences)) > 0:
        return False
    return are_apart(stretches_of(fences)) and have_land_at_left(fences)


# At each point as many fences come as go.
def is_balanced(fences):
    balance = {}
    for P, Q in fences:
        balance[P] = balance.get(P, 0) + 1
        balance[Q] = balance.get(Q, 0) - 1
    return all([more == 0 for more in balance.values()])


# No two have anything in common but an end of each. Alike ones make no stop within one of them, so they are
# asked for by themselves; others that overlap, and those that cross, do.
def are_apart(stretches):
    if len(set(stretches)) < len(stretches):
        return False
    return all([through == [] for P, begins, through, ends in stops(stretches)])


# Of fences that are balanced and apart.
def have_land_at_left(fences):
    rows = flanked(stretches_of(fences))
    for fence, row in zip(fences, rows):
        wanted = (1, 0) if row[0] == fence else (0, 1)
        if (row[1], row[2]) != wanted:
            return False
    return True

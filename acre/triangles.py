"""A land told as triangles: its corners, the diagonals that join them, and what lies between."""

from acre.points import amid, by_points, in_order, line_of, side_of, turn
from acre.rings import first_right
from acre.rows import numbers_of
from acre.stretches import ends_of, stretches_of


def corners_of(land):
    return in_order(ends_of(land))


def diagonals(land):
    corners = corners_of(land)
    tips = tips_of(land)
    numbers = numbers_of(corners)
    barriers = [(numbers[S[0]], numbers[S[1]]) for S in stretches_of(land)]
    taken = []
    for first in range(len(corners)):
        for second in range(first + 1, len(corners)):
            A = corners[first]
            B = corners[second]
            if goes_in(A, B, tips) and goes_in(B, A, tips) and is_free((first, second), barriers, corners):
                taken.append((A, B))
                # What hinders one is likely to hinder its neighbours, so the newest is asked first.
                barriers = [(first, second)] + barriers
    return taken


# For each corner the far ends of its fences, with True for those that leave it, False for those that come.
def tips_of(land):
    tips = {}
    for P in ends_of(land):
        tips[P] = {}
    for P, Q in land:
        tips[P][Q] = True
        tips[Q][P] = False
    return tips


# Whether land lies right ahead of who looks from a corner to Q, along no fence: a fence that leaves has land at its
# left hand, so what is met first by turning to the right hand is one that leaves.
def goes_in(corner, Q, tips):
    own = tips[corner]
    return Q not in own and own[first_right(corner, Q, list(own))]


# Whether a stretch between two corners, told by their numbers, has nothing in common with any of the others but
# perhaps an end of both.
def is_free(pair, others, corners):
    line = line_of(corners[pair[0]], corners[pair[1]])
    for other in others:
        # Those that end before the one begins are out of the way.
        if other[0] < pair[1] and pair[0] < other[1] and is_hindered(pair, line, other, corners):
            return False
    return True


# The numbers stand in the order of the corners, and the ways of both overlap in it.
def is_hindered(pair, line, other, corners):
    first = side_of(line, corners[other[0]])
    second = side_of(line, corners[other[1]])
    if first == 0 and second == 0:
        return True
    if first == second or pair[0] == other[0] or pair[1] == other[1]:
        return False
    other_line = line_of(corners[other[0]], corners[other[1]])
    return side_of(other_line, corners[pair[0]]) != side_of(other_line, corners[pair[1]])


def triangles(land):
    corners = corners_of(land)
    tips = tips_of(land)
    later = later_of(stretches_of(land) + diagonals(land))
    told = []
    for A in corners:
        row = in_order(list(later[A]))
        for number, B in enumerate(row):
            for C in row[number + 1:]:
                if C in later[B]:
                    three = (A, B, C) if turn(A, B, C) > 0 else (A, C, B)
                    if is_bare(three, corners) and goes_in(A, amid(B, C), tips):
                        told.append(three)
    return by_points(told)


# For each first point the second points.
def later_of(stretches):
    later = {}
    for P in ends_of(stretches):
        later[P] = {}
    for P, Q in stretches:
        later[P][Q] = True
    return later


def is_bare(three, corners):
    lines = [line_of(three[k], three[(k + 1) % 3]) for k in range(3)]
    for P in corners:
        if P not in three and all([side_of(line, P) >= 0 for line in lines]):
            return False
    return True

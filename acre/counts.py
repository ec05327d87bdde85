"""Counts: how many stretches stand above a point, and so at which hand of a stretch land lies."""

from acre.points import amid, in_order, line_of, side_of, turn
from acre.rows import halved
from acre.stretches import ends_of, lies_on


def is_upright(S):
    return S[0][0] * S[1][2] == S[1][0] * S[0][2]


def above(stretches, P):
    return len([S for S in stretches if spans(S, P) and turn(S[0], S[1], P) < 0])


# Whether P lies not farther left than the first point and farther left than the second one; no upright does so.
def spans(S, P):
    if P[0] * S[0][2] < S[0][0] * P[2]:
        return False
    return P[0] * S[1][2] < S[1][0] * P[2]


def hands(S, stretches):
    middle = amid(S[0], S[1])
    over = above(stretches, middle)
    on = len([other for other in stretches if lies_on(middle, other)])
    first = over % 2 == 1
    second = (over + on) % 2 == 1
    if is_upright(S):
        return (second, first)
    return (first, second)


# The hands of many stretches at once. They have nothing in common but ends. Each has a mask, a bit for each land
# on whose border it lies; of each land's own, an even number ends at each point. For each stretch two masks are
# told: the bits of the lands that lie at its left hand, and of those that lie at its right hand.
def flanks(stretches, masks):
    lines = [line_of(S[0], S[1]) for S in stretches]
    fans = fans_of(stretches)
    told = [(0, 0) for S in stretches]
    # The numbers of those that stand over the place of the sweep, from below to above; uprights stand over none.
    standing = []
    for P in in_order(ends_of(stretches)):
        low = halved(len(standing), lambda k: side_of(lines[standing[k]], P) <= 0)
        high = low
        while high < len(standing) and stretches[standing[high]][1] == P:
            high += 1
        over = mixed([masks[number] for number in standing[high:]])
        fan = fans.get(P, [])
        for number in reversed(fan):
            told[number] = (over, over ^ masks[number])
            over = over ^ masks[number]
        level = [number for number in fan if not is_upright(stretches[number])]
        standing = standing[:low] + level + standing[high:]
    return told


def mixed(masks):
    mask = 0
    for other in masks:
        mask = mask ^ other
    return mask


# For each first point the numbers of the stretches that begin there, from below to above, an upright one last.
def fans_of(stretches):
    fans = {}
    for number, S in enumerate(stretches):
        fan = fans.get(S[0], [])
        place = halved(len(fan), lambda k: turn(S[0], S[1], stretches[fan[k]][1]) > 0)
        fans[S[0]] = fan[:place] + [number] + fan[place:]
    return fans

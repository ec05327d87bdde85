"""Lands joined and cut: what is made of two lands, told by the pieces of all their fences."""

from acre.counts import flanks
from acre.lands import fences_of
from acre.stretches import stretches_of
from acre.sweep import pieces

FIRST = 1
SECOND = 2


def marks(one, other):
    cut = pieces(stretches_of(one + other))
    masks = [mask_of(owners, len(one)) for S, owners in cut]
    told = []
    for row, flank in zip(cut, flanks([S for S, owners in cut], masks)):
        left = flank[0]
        right = flank[1]
        told.append((row[0], has(left, FIRST), has(right, FIRST), has(left, SECOND), has(right, SECOND)))
    return told


# Fences of one land share no piece, so each land owns a piece once at most.
def mask_of(owners, many):
    mask = 0
    for number in owners:
        mask = mask | (FIRST if number < many else SECOND)
    return mask


def has(mask, bit):
    return (mask & bit) != 0


def made(one, other, rule):
    rows = []
    for S, left, right, other_left, other_right in marks(one, other):
        rows.append((S, rule(left, other_left), rule(right, other_right)))
    return fences_of(rows)


def join(one, other):
    return made(one, other, lambda first, second: first or second)


def common(one, other):
    return made(one, other, lambda first, second: first and second)


def less(one, other):
    return made(one, other, lambda first, second: first and not second)


def either(one, other):
    return made(one, other, lambda first, second: first != second)

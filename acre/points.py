"""Points: tuples (x, y, w) in lowest terms, w from 1 on; their order, their turns, and the lines through them."""

from acre.errors import NoPoint
from acre.ratios import fraction
from acre.wholes import divisor, is_whole


def point(x, y, w):
    if not is_whole(x) or not is_whole(y) or not is_whole(w):
        raise NoPoint("a point is made of three whole numbers")
    if w == 0:
        raise NoPoint("the third number of a point is not 0")
    factor = divisor(divisor(w, x), y)
    # Dividing by a number below 0 turns all signs, so the third number ends above 0.
    if w < 0:
        factor = -factor
    return (x // factor, y // factor, w // factor)


def across(P):
    return fraction(P[0], P[2])


def up(P):
    return fraction(P[1], P[2])


# The third numbers are above 0, so multiplying by them keeps the order.
def before(P, Q):
    left = P[0] * Q[2]
    right = Q[0] * P[2]
    if left != right:
        return left < right
    return P[1] * Q[2] < Q[1] * P[2]


def sign_of(number):
    if number > 0:
        return 1
    if number < 0:
        return -1
    return 0


def line_of(P, Q):
    return (P[1] * Q[2] - P[2] * Q[1], P[2] * Q[0] - P[0] * Q[2], P[0] * Q[1] - P[1] * Q[0])


def side_of(line, P):
    return sign_of(line[0] * P[0] + line[1] * P[1] + line[2] * P[2])


def turn(P, Q, R):
    return side_of(line_of(P, Q), R)


def met(one, other):
    w = one[0] * other[1] - one[1] * other[0]
    # It is 0 where the lines go alike, and where one of them is none.
    if w == 0:
        return None
    x = one[1] * other[2] - one[2] * other[1]
    y = one[2] * other[0] - one[0] * other[2]
    return point(x, y, w)


def amid(P, Q):
    return point(P[0] * Q[2] + Q[0] * P[2], P[1] * Q[2] + Q[1] * P[2], 2 * P[2] * Q[2])


# Two unlike fractions with bottoms up to w lie at least 1 / (w * w) apart. So w * w times as great they have
# unlike whole parts, and these, which Python can put in order by itself, stand in the order of the points.
def order_keys(points):
    greatest = max([P[2] for P in points], default=1)
    scale = greatest * greatest
    keys = {}
    for P in points:
        if P not in keys:
            keys[P] = (P[0] * scale // P[2], P[1] * scale // P[2])
    return keys


# Each point once.
def in_order(points):
    keys = order_keys(points)
    return sorted(list(keys), key=lambda P: keys[P])


# For things that are rows of points: by the first points, then by the second ones, and so on.
def by_points(things):
    points = []
    for thing in things:
        points.extend(thing)
    keys = order_keys(points)
    return sorted(things, key=lambda thing: [keys[P] for P in thing])

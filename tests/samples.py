"""Numbers and things that several tests ask with, and plain ways to reckon what ought to be told."""

import decimal
import fractions
import functools
import math
import random

SIXTY = int("7" * 30 + "1" * 30)
SIXTY_TWO = int("9" * 60)
THREE_HUNDRED = int("1234567890" * 30)
THREE_HUNDRED_TWO = int("9" * 300)

WHOLES = [
    -SIXTY_TWO, -SIXTY, -360, -97, -12, -3, -2, -1,
    0, 1, 2, 3, 4, 6, 9, 12, 35, 97, 360, 1001, SIXTY, SIXTY_TWO,
]

NOT_WHOLE = [
    True, False, None, "", "1", "one", [], [1], [1, 2], (), (1,), (1, 2), {}, {1: 1},
    1.0, 0.0, 1j, b"1", set(), frozenset([1]), object(), int, len, range(3),
    fractions.Fraction(1), decimal.Decimal(1),
]


def fraction_pairs():
    """A fraction as the program tells it, beside the one of Python's own library."""
    tops = [-SIXTY_TWO, -SIXTY, -35, -7, -6, -1, 0, 1, 2, 5, 12, SIXTY, SIXTY_TWO]
    bottoms = [1, 2, 3, 6, 10, 35, SIXTY + 2]
    found = {fractions.Fraction(top, bottom) for top in tops for bottom in bottoms}
    return [((one.numerator, one.denominator), one) for one in sorted(found)]


@functools.lru_cache(maxsize=None)
def place(P):
    """How far to the right and above a point lies, as fractions of Python's own library."""
    return (fractions.Fraction(P[0], P[2]), fractions.Fraction(P[1], P[2]))


def at(x, y):
    """The point at two numbers or fractions of Python's own, in lowest terms."""
    x, y = fractions.Fraction(x), fractions.Fraction(y)
    w = x.denominator * y.denominator // math.gcd(x.denominator, y.denominator)
    return (int(x * w), int(y * w), w)


def row_of(*places):
    return [at(*one) for one in places]


def reach(*places):
    """The stretch of two places, the one that comes before told first."""
    return tuple(row_of(*places))


def plain_sides(rings):
    """The sides of rings, as stretches."""
    told = []
    for ring in rings:
        for P, Q in zip(ring, ring[1:] + ring[:1]):
            if P != Q:
                told.append(tuple(sorted((P, Q), key=place)))
    return told


def area_of_turn(P, Q, R):
    """Twice the area of the triangle, above 0 where it goes round to the left."""
    (a, b), (c, d), (e, f) = place(P), place(Q), place(R)
    return (c - a) * (f - b) - (d - b) * (e - a)


def plain_on(P, S):
    if area_of_turn(S[0], S[1], P) != 0:
        return False
    return place(S[0]) <= place(P) <= place(S[1])


def plain_spot(S, T):
    """The one point of two stretches, or None; two on one line are told by their ends."""
    (a, b), (c, d) = place(S[0]), place(S[1])
    (e, f), (g, h) = place(T[0]), place(T[1])
    bottom = (c - a) * (h - f) - (d - b) * (g - e)
    if bottom == 0:
        ends = {P for P in S + T if plain_on(P, S) and plain_on(P, T)}
        return ends.pop() if len(ends) == 1 else None
    share = ((e - a) * (h - f) - (f - b) * (g - e)) / bottom
    P = at(a + share * (c - a), b + share * (d - b))
    return P if plain_on(P, S) and plain_on(P, T) else None


def plain_stops(stretches):
    found = {P for S in stretches for P in S}
    for one, S in enumerate(stretches):
        for T in stretches[:one]:
            spot = plain_spot(S, T)
            if spot is not None:
                found.add(spot)
    told = []
    for P in sorted(found, key=place):
        on = [number for number, S in enumerate(stretches) if plain_on(P, S)]
        begins = [number for number in on if stretches[number][0] == P]
        ends = [number for number in on if stretches[number][1] == P]
        told.append((P, begins, [number for number in on if number not in begins + ends], ends))
    return told


def drawn_points(draw, many, span, bottom=1):
    return [at(fractions.Fraction(draw.randint(-span, span), draw.randint(1, bottom)),
               fractions.Fraction(draw.randint(-span, span), draw.randint(1, bottom))) for _ in range(many)]


def drawn_stretches(draw, many, span, bottom=1):
    told = []
    while len(told) < many:
        P, Q = sorted(drawn_points(draw, 2, span, bottom), key=place)
        if P != Q:
            told.append((P, Q))
    return told


def nets():
    """Lists of stretches, small and crowded ones, in which all told kinds of meeting happen."""
    draw = random.Random(5)
    level = [reach((0, y), (6, y)) for y in range(4)]
    standing = [reach((x, -1), (x, 4)) for x in (0, 1, 3, 6)]
    spokes = [tuple(sorted(row_of((-x, -y), (x, y)), key=place)) for x, y in
              [(1, 0), (0, 1), (1, 1), (1, -1), (2, 1), (1, 2), (5, -3)]]
    on_one_line = [reach((a, 2 * a), (b, 2 * b)) for a, b in [(0, 3), (1, 5), (3, 4), (5, 7), (1, 5), (8, 9)]]
    upright_line = [reach((2, a), (2, b)) for a, b in [(0, 3), (1, 5), (3, 4), (5, 7), (0, 3)]]
    told = [[], level[:1], level + standing, standing + level, spokes, on_one_line, upright_line,
            on_one_line + spokes, upright_line + level, level + level, level[:1] * 3]
    for many, span, bottom in [(2, 2, 1), (6, 2, 1), (10, 2, 1), (12, 3, 1), (16, 4, 2), (12, 9, 5), (8, SIXTY, 1),
                                (6, SIXTY, SIXTY)]:
        told.extend(drawn_stretches(draw, many, span, bottom) for _ in range(6))
    return told


def plain_height(S, x):
    """How far above a stretch that is not upright lies at x."""
    (a, b), (c, d) = place(S[0]), place(S[1])
    return b + (d - b) * (x - a) / (c - a)


def plain_above(stretches, P):
    x, y = place(P)
    return sum(place(S[0])[0] <= x < place(S[1])[0] and plain_height(S, x) > y for S in stretches)


def plain_in(rings, P):
    """True or False by the one rule, and None for a point on a side."""
    sides = plain_sides(rings)
    if any(plain_on(P, S) for S in sides):
        return None
    return plain_above(sides, P) % 2 == 1


def as_stretches(fences):
    return [tuple(sorted(fence, key=place)) for fence in fences]


def near(fence, hand):
    """A place near the middle of a fence, at its left hand (1) or its right hand (-1), ahead of all others."""
    (a, b), (c, d) = place(fence[0]), place(fence[1])
    return lambda part: at((a + c) / 2 - hand * part * (d - b), (b + d) / 2 + hand * part * (c - a))


def plain_is_land(fences):
    """The four things of a land, each looked at as plainly as can be."""
    stretches = as_stretches(fences)
    if fences != sorted(set(fences), key=lambda fence: (place(fence[0]), place(fence[1]))):
        return False
    for one, S in enumerate(stretches):
        for T in stretches[:one]:
            shared = {P for P in S + T if plain_on(P, S) and plain_on(P, T)}
            if len(shared) > 1 or any(P not in S or P not in T for P in shared) or plain_crossing(S, T):
                return False
    ends = {P for fence in fences for P in fence}
    for P in ends:
        coming = [A for A, Q in fences if Q == P]
        going = [B for Q, B in fences if Q == P]
        if len(coming) != len(going):
            return False
        if len(going) == 1 and area_of_turn(coming[0], P, going[0]) == 0:
            return False
    return all(plain_hands(fence, stretches) == (True, False) for fence in fences)


def plain_crossing(S, T):
    spot = plain_spot(S, T)
    return spot is not None and spot not in S + T


def plain_hands(fence, stretches):
    told = []
    for hand in (1, -1):
        part, find = fractions.Fraction(1, 4), near(fence, hand)
        # Nearer and nearer, until no other stretch lies between the middle and the place.
        while any(plain_touches(S, (near(fence, 0)(0), find(part))) for S in stretches if set(S) != set(fence)):
            part /= 4
        told.append(plain_above_parity(stretches, find(part)))
    return tuple(told)


def plain_touches(S, way):
    way = tuple(sorted(way, key=place))
    if any(plain_on(P, S) for P in way) or any(plain_on(P, way) for P in S):
        return True
    return plain_spot(S, way) is not None


def plain_above_parity(stretches, P):
    return plain_above(stretches, P) % 2 == 1


SQUARE = row_of((0, 0), (4, 0), (4, 4), (0, 4))
RING_LISTS = {
    "none": [], "an empty ring": [[]], "one point": [row_of((1, 2))], "two points": [row_of((0, 0), (3, 1))],
    "a square": [SQUARE], "a triangle": [row_of((0, 0), (3, 1), (1, "5/2"))],
    "a hole": [SQUARE, row_of((1, 1), (3, 1), (3, 3), (1, 3))],
    "an island in a hole": [row_of((0, 0), (9, 0), (9, 9), (0, 9)), row_of((1, 1), (8, 1), (8, 8), (1, 8)),
                            row_of((3, 3), (6, 3), (6, 6), (3, 6)), row_of((4, 4), (5, 4), (5, 5))],
    "a hole at a corner": [SQUARE, row_of((0, 0), (2, 1), (1, 2))],
    "a hole at a side": [SQUARE, row_of((2, 0), (3, 1), (1, 1))],
    "two holes that touch": [row_of((0, 0), (6, 0), (6, 6), (0, 6)), row_of((1, 1), (3, 1), (3, 3), (1, 3)),
                             row_of((3, 3), (5, 3), (5, 5), (3, 5))],
    "two squares at a corner": [row_of((0, 0), (1, 0), (1, 1), (0, 1)), row_of((1, 1), (2, 1), (2, 2), (1, 2))],
    "two squares at the other corner": [row_of((0, 1), (1, 1), (1, 2), (0, 2)), row_of((1, 0), (2, 0), (2, 1), (1, 1))],
    "two squares at a side": [row_of((0, 0), (1, 0), (1, 1), (0, 1)), row_of((1, 0), (2, 0), (2, 1), (1, 1))],
    "two squares at part of a side": [row_of((0, 0), (2, 0), (2, 2), (0, 2)), row_of((2, 1), (4, 1), (4, 3), (2, 3))],
    "two squares that overlap": [row_of((0, 0), (3, 0), (3, 3), (0, 3)), row_of((1, 1), (5, 1), (5, 4), (1, 4))],
    "a bow": [row_of((0, 0), (4, 4), (4, 0), (0, 4))],
    "a star": [row_of((0, 5), (10, 5), (2, 0), (5, 9), (8, 0))],
    "twice round": [SQUARE + SQUARE], "a ring and itself": [SQUARE, SQUARE], "thrice": [SQUARE, SQUARE, SQUARE[::-1]],
    "to and fro": [row_of((0, 0), (4, 0), (4, 4), (6, 6), (4, 4), (0, 4))],
    "alike points": [row_of((0, 0), (0, 0), (4, 0), (4, 0), (4, 0), (0, 4), (0, 0))],
    "back at its own points": [row_of((0, 0), (2, 2), (4, 0), (4, 4), (2, 2), (0, 4))],
    "four wedges at a point": [row_of((0, 0), (3, 1), (3, -1)), row_of((0, 0), (1, 3), (-1, 3)),
                               row_of((0, 0), (-3, 1), (-3, -1)), row_of((0, 0), (-1, -3), (1, -3))],
    "points amid sides": [row_of((0, 0), (2, 0), (4, 0), (4, 1), (4, 4), (1, 4), (0, 4))],
    "two holes at one corner": [row_of((0, 0), (8, 0), (8, 8), (0, 8)), row_of((4, 4), (6, 3), (6, 5)),
                                row_of((4, 4), (2, 3), (2, 5)), row_of((4, 4), (3, 7), (5, 7))],
    "a chain of holes": [row_of((0, 0), (6, 0), (6, 6), (0, 6)), row_of((0, 3), (2, 2), (2, 4)),
                         row_of((2, 4), (4, 2), (4, 4)), row_of((4, 2), (6, 1), (5, 3))],
    "far off": [row_of((-SIXTY, 0), (SIXTY, 1), (1, SIXTY)), row_of((0, -SIXTY), (1, SIXTY_TWO), (5, 7))],
}


def drawn_ring_lists(seed, many):
    draw = random.Random(seed)
    kinds = [(1, 3, 3, 1), (1, 5, 2, 1), (2, 4, 3, 1), (3, 4, 2, 1), (1, 8, 5, 1), (2, 5, 4, 2), (4, 4, 3, 3)]
    told = []
    for number in range(many):
        rings, points, span, bottom = kinds[number % len(kinds)]
        told.append([drawn_points(draw, points, span, bottom) for _ in range(rings)])
    return told


def probes(seed, many=30, span=6):
    """Points that lie on no side of a ring with small numbers, or hardly ever."""
    draw = random.Random(seed)
    return [at(fractions.Fraction(draw.randint(-span * 97, span * 97), 97),
               fractions.Fraction(draw.randint(-span * 89, span * 89), 89)) for _ in range(many)]

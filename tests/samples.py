"""Numbers and things that several tests ask with, and plain ways to reckon what ought to be told."""

import decimal
import fractions
import math
import random

SIXTY = int("7" * 30 + "1" * 30)
SIXTY_TWO = int("9" * 60)
THREE_HUNDRED = int("1234567890" * 30)
THREE_HUNDRED_TWO = int("9" * 300)

WHOLES = [
    -SIXTY_TWO, -SIXTY, -360, -97, -12, -3, -2, -1,
    0, 1, 2, 3, 4, 6, 9, 12, 35, 97, 360, 1001, SIXTY, SIXTY_TWO,
]

NOT_WHOLE = [
    True, False, None, "", "1", "one", [], [1], [1, 2], (), (1,), (1, 2), {}, {1: 1},
    1.0, 0.0, 1j, b"1", set(), frozenset([1]), object(), int, len, range(3),
    fractions.Fraction(1), decimal.Decimal(1),
]


def fraction_pairs():
    """A fraction as the program tells it, beside the one of Python's own library."""
    tops = [-SIXTY_TWO, -SIXTY, -35, -7, -6, -1, 0, 1, 2, 5, 12, SIXTY, SIXTY_TWO]
    bottoms = [1, 2, 3, 6, 10, 35, SIXTY + 2]
    found = {fractions.Fraction(top, bottom) for top in tops for bottom in bottoms}
    return [((one.numerator, one.denominator), one) for one in sorted(found)]


def place(P):
    """How far to the right and above a point lies, as fractions of Python's own library."""
    return (fractions.Fraction(P[0], P[2]), fractions.Fraction(P[1], P[2]))


def at(x, y):
    """The point at two numbers or fractions of Python's own, in lowest terms."""
    x, y = fractions.Fraction(x), fractions.Fraction(y)
    w = x.denominator * y.denominator // math.gcd(x.denominator, y.denominator)
    return (int(x * w), int(y * w), w)


def row_of(*places):
    return [at(*one) for one in places]


def reach(*places):
    """The stretch of two places, the one that comes before told first."""
    return tuple(row_of(*places))


def plain_sides(rings):
    """The sides of rings, as stretches."""
    told = []
    for ring in rings:
        for P, Q in zip(ring, ring[1:] + ring[:1]):
            if P != Q:
                told.append(tuple(sorted((P, Q), key=place)))
    return told


def area_of_turn(P, Q, R):
    """Twice the area of the triangle, above 0 where it goes round to the left."""
    (a, b), (c, d), (e, f) = place(P), place(Q), place(R)
    return (c - a) * (f - b) - (d - b) * (e - a)


def plain_on(P, S):
    if area_of_turn(S[0], S[1], P) != 0:
        return False
    return place(S[0]) <= place(P) <= place(S[1])


def plain_spot(S, T):
    """The one point of two stretches, or None; two on one line are told by their ends."""
    (a, b), (c, d) = place(S[0]), place(S[1])
    (e, f), (g, h) = place(T[0]), place(T[1])
    bottom = (c - a) * (h - f) - (d - b) * (g - e)
    if bottom == 0:
        ends = {P for P in S + T if plain_on(P, S) and plain_on(P, T)}
        return ends.pop() if len(ends) == 1 else None
    share = ((e - a) * (h - f) - (f - b) * (g - e)) / bottom
    P = at(a + share * (c - a), b + share * (d - b))
    return P if plain_on(P, S) and plain_on(P, T) else None


def plain_stops(stretches):
    found = {P for S in stretches for P in S}
    for one, S in enumerate(stretches):
        for T in stretches[:one]:
            spot = plain_spot(S, T)
            if spot is not None:
                found.add(spot)
    told = []
    for P in sorted(found, key=place):
        on = [number for number, S in enumerate(stretches) if plain_on(P, S)]
        begins = [number for number in on if stretches[number][0] == P]
        ends = [number for number in on if stretches[number][1] == P]
        told.append((P, begins, [number for number in on if number not in begins + ends], ends))
    return told


def drawn_points(draw, many, span, bottom=1):
    return [at(fractions.Fraction(draw.randint(-span, span), draw.randint(1, bottom)),
               fractions.Fraction(draw.randint(-span, span), draw.randint(1, bottom))) for _ in range(many)]


def drawn_stretches(draw, many, span, bottom=1):
    told = []
    while len(told) < many:
        P, Q = sorted(drawn_points(draw, 2, span, bottom), key=place)
        if P != Q:
            told.append((P, Q))
    return told


def nets():
    """Lists of stretches, small and crowded ones, in which all told kinds of meeting happen."""
    draw = random.Random(5)
    level = [reach((0, y), (6, y)) for y in range(4)]
    standing = [reach((x, -1), (x, 4)) for x in (0, 1, 3, 6)]
    spokes = [tuple(sorted(row_of((-x, -y), (x, y)), key=place)) for x, y in
              [(1, 0), (0, 1), (1, 1), (1, -1), (2, 1), (1, 2), (5, -3)]]
    on_one_line = [reach((a, 2 * a), (b, 2 * b)) for a, b in [(0, 3), (1, 5), (3, 4), (5, 7), (1, 5), (8, 9)]]
    upright_line = [reach((2, a), (2, b)) for a, b in [(0, 3), (1, 5), (3, 4), (5, 7), (0, 3)]]
    told = [[], level[:1], level + standing, standing + level, spokes, on_one_line, upright_line,
            on_one_line + spokes, upright_line + level, level + level, level[:1] * 3]
    for many, span, bottom in [(2, 2, 1), (6, 2, 1), (10, 2, 1), (12, 3, 1), (16, 4, 2), (12, 9, 5), (8, SIXTY, 1),
                                (6, SIXTY, SIXTY)]:
        told.extend(drawn_stretches(draw, many, span, bottom) for _ in range(6))
    return told

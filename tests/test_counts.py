import fractions
import random
import unittest

from acre.counts import above, hands, is_upright
from acre.sweep import pieces
from tests.samples import (SIXTY, THREE_HUNDRED, at, drawn_points, drawn_stretches, nets, place, plain_above, plain_on,
                           plain_sides, plain_touches, reach, row_of)


def drawn_rings():
    draw = random.Random(16)
    told = [[row_of((0, 0), (4, 0), (4, 3), (0, 3))], [row_of((0, 0), (4, 0), (4, 3), (0, 3), (2, 1))],
            [row_of((0, 0), (4, 4), (4, 0), (0, 4))], [row_of((0, 0), (4, 0)), row_of((1, 1))],
            [row_of((0, 0), (6, 0), (6, 6), (0, 6)), row_of((0, 0), (6, 0), (6, 6), (0, 6), (0, 3), (3, 3))]]
    for many, span, bottom in [(3, 2, 1), (6, 2, 1), (8, 3, 1), (7, 4, 3), (5, SIXTY, SIXTY)]:
        told.extend([drawn_points(draw, many, span, bottom) for _ in range(2)] for _ in range(3))
    return told


class Upright(unittest.TestCase):
    def test_upright(self):
        for S in [reach((0, 0), (0, 1)), reach(("1/3", -5), ("1/3", "7/2")), reach((SIXTY, 0), (SIXTY, 1))]:
            self.assertIs(is_upright(S), True)

    def test_not_upright(self):
        for S in [reach((0, 0), (1, 0)), reach((0, 0), (1, 9)), reach(("1/3", 0), ("1/2", 0)),
                  reach((SIXTY, 0), (SIXTY + 1, THREE_HUNDRED)), ((1, 0, 2), (1, 5, 1))]:
            self.assertIs(is_upright(S), False)


class Above(unittest.TestCase):
    def test_below_on_and_above(self):
        S = reach((0, 0), (4, 2))
        self.assertEqual([above([S], at(2, y)) for y in (0, "1/2", 1, "3/2")], [1, 1, 0, 0])

    def test_at_the_ends(self):
        S = reach((0, 0), (4, 2))
        self.assertEqual([above([S], at(x, -9)) for x in (-1, 0, 2, 4, 5)], [0, 1, 1, 0, 0])
        self.assertEqual(above([S], S[0]), 0)
        self.assertEqual(above([S], S[1]), 0)

    def test_uprights_never_stand_above(self):
        S = reach((0, 0), (0, 2))
        self.assertEqual([above([S], at(x, y)) for x in (-1, 0, 1) for y in (-1, 0, 1, 2, 3)], [0] * 15)

    def test_each_as_often_as_it_comes(self):
        S = reach((0, 0), (4, 2))
        self.assertEqual(above([S, S, S], at(1, 0)), 3)
        self.assertEqual(above([], at(1, 0)), 0)

    def test_against_a_plain_look(self):
        draw = random.Random(17)
        for some in nets():
            spots = {P for S in some for P in S} | set(drawn_points(draw, 6, 6)) | set(drawn_points(draw, 6, 6, 4))
            for P in spots:
                told = above(some, P)
                self.assertIs(type(told), int)
                self.assertEqual(told, plain_above(some, P))

    def test_what_is_handed_in_stays(self):
        some = list(nets()[2])
        kept = list(some)
        above(some, at(1, 1))
        hands(some[0], some)
        self.assertEqual(some, kept)


def plain_odd(stretches, P, toward):
    """Whether an odd number stands above a place ever so little off P: near enough that no other one lies amid."""
    x, y = place(P)
    step = fractions.Fraction(1)
    off = [S for S in stretches if not plain_on(P, S)]
    while True:
        near = (x + toward[0] * step, y + toward[1] * step)
        way = tuple(sorted((P, at(*near)), key=place))
        ends = {place(Q)[0] for S in stretches for Q in S}
        if not any(min(x, near[0]) <= end <= max(x, near[0]) and end != x for end in ends) \
                and not any(plain_touches(S, way) for S in off):
            return plain_above(stretches, at(*near)) % 2 == 1
        step /= 2


class Hands(unittest.TestCase):
    def test_a_square(self):
        square = plain_sides([row_of((0, 0), (4, 0), (4, 4), (0, 4))])
        low, right, high, left = square
        self.assertEqual(hands(low, square), (True, False))
        self.assertEqual(hands(high, square), (False, True))
        self.assertEqual(hands(left, square), (False, True))
        self.assertEqual(hands(right, square), (True, False))

    def test_a_slanting_ring(self):
        some = plain_sides([row_of((0, 0), (3, 1), (2, 4))])
        self.assertEqual([hands(S, some) for S in some], [(True, False), (False, True), (False, True)])

    def test_one_that_is_not_among_them(self):
        square = plain_sides([row_of((0, 0), (4, 0), (4, 4), (0, 4))])
        self.assertEqual(hands(reach((1, 1), (2, 2)), square), (True, True))
        self.assertEqual(hands(reach((1, 1), (1, 2)), square), (True, True))
        self.assertEqual(hands(reach((5, 1), (6, 2)), square), (False, False))
        self.assertEqual(hands(reach((5, 1), (5, 2)), square), (False, False))
        self.assertEqual(hands(reach((1, 0), (2, 0)), square), (True, False))

    def test_alike_ones(self):
        square = plain_sides([row_of((0, 0), (4, 0), (4, 4), (0, 4))])
        self.assertEqual([hands(S, square + square) for S in square], [(False, False)] * 4)
        self.assertEqual([hands(S, square * 3) for S in square], [hands(S, square) for S in square])

    def test_ever_so_little_off_among_closed_rings(self):
        for rings in drawn_rings():
            some = plain_sides(rings)
            for S, owners in pieces(some):
                (a, b), (c, d) = place(S[0]), place(S[1])
                middle = at((a + c) / 2, (b + d) / 2)
                wanted = (plain_odd(some, middle, (b - d, c - a)), plain_odd(some, middle, (d - b, a - c)))
                self.assertEqual(hands(S, some), wanted)

    def test_as_told_among_any(self):
        draw = random.Random(18)
        for some in nets() + [drawn_stretches(draw, 9, 3) for _ in range(8)]:
            for S, owners in pieces(some):
                (a, b), (c, d) = place(S[0]), place(S[1])
                over = plain_above(some, at((a + c) / 2, (b + d) / 2))
                both = (over % 2 == 1, (over + len(owners)) % 2 == 1)
                told = hands(S, some)
                self.assertEqual(told, both[::-1] if a == c else both)
                self.assertEqual([type(one) for one in (told, told[0], told[1])], [tuple, bool, bool])

    def test_among_any_by_hand(self):
        upright, level, slant = reach((2, 0), (2, 2)), reach((0, 5), (4, 5)), reach((1, 9), (3, 10))
        self.assertEqual(hands(upright, [upright]), (True, False))
        self.assertEqual(hands(upright, [upright, level]), (False, True))
        self.assertEqual(hands(upright, [level]), (True, True))
        self.assertEqual(hands(level, [level]), (False, True))
        self.assertEqual(hands(level, [level, slant]), (True, False))
        self.assertEqual(hands(slant, [level, slant]), (False, True))
        self.assertEqual(hands(upright, []), (False, False))


if __name__ == "__main__":
    unittest.main()

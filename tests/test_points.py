import fractions
import itertools
import math
import random
import unittest

from acre import errors
from acre.points import across, amid, before, by_points, in_order, line_of, met, point, side_of, turn, up
from tests.samples import (NOT_WHOLE, SIXTY, SIXTY_TWO, THREE_HUNDRED, THREE_HUNDRED_TWO, WHOLES, area_of_turn, at,
                           drawn_points, place, row_of)

OTHER_REFUSALS = (errors.NoNumber, errors.NoStretch, errors.NoName, errors.NoText, errors.NoRow)
NUMBERS = [-SIXTY, -12, -6, -1, 0, 1, 4, 6, 35, SIXTY_TWO, THREE_HUNDRED]


def some_points():
    draw = random.Random(6)
    told = row_of((0, 0), (1, 0), (0, 1), (-1, 0), (0, -1), (1, 1), (2, 2), (3, 3), (2, 4), ("1/2", "1/2"),
                  ("1/2", "-7/3"), ("1/3", 1), (1, "1/3"))
    return told + drawn_points(draw, 4, 3) + drawn_points(draw, 3, 9, 7) + drawn_points(draw, 3, SIXTY, SIXTY)


class Point(unittest.TestCase):
    def test_ordinary(self):
        self.assertEqual(point(1, 2, 1), (1, 2, 1))
        self.assertEqual(point(2, 4, 6), (1, 2, 3))
        self.assertEqual(point(2, 4, -6), (-1, -2, 3))
        self.assertEqual(point(0, 0, 7), (0, 0, 1))
        self.assertEqual(point(0, 0, -7), (0, 0, 1))
        self.assertEqual(point(6, 10, 15), (6, 10, 15))
        self.assertEqual(point(-3, 0, -3), (1, 0, 1))

    def test_lowest_terms(self):
        for x, y, w in itertools.product(NUMBERS, repeat=3):
            if w == 0:
                continue
            with self.subTest(x=x, y=y, w=w):
                told = point(x, y, w)
                self.assertIs(type(told), tuple)
                self.assertEqual([type(number) for number in told], [int, int, int])
                self.assertGreaterEqual(told[2], 1)
                self.assertEqual(math.gcd(*told), 1)
                self.assertEqual(place(told), (fractions.Fraction(x, w), fractions.Fraction(y, w)))
                self.assertEqual(across(told), (place(told)[0].numerator, place(told)[0].denominator))
                self.assertEqual(up(told), (place(told)[1].numerator, place(told)[1].denominator))

    def test_three_hundred_figures(self):
        common = THREE_HUNDRED_TWO // 9
        self.assertEqual(point(common * 2, -common * 3, -common * 5), (-2, 3, 5))
        self.assertEqual(point(THREE_HUNDRED, 1, THREE_HUNDRED), (THREE_HUNDRED, 1, THREE_HUNDRED))

    def test_across_and_up_are_in_lowest_terms(self):
        self.assertEqual(across((2, 3, 4)), (1, 2))
        self.assertEqual(up((2, 3, 4)), (3, 4))
        self.assertEqual(across((0, 1, 4)), (0, 1))
        self.assertEqual(up((1, -2, 4)), (-1, 2))


class Refused(unittest.TestCase):
    def refused(self, *three):
        with self.subTest(three=three):
            with self.assertRaises(errors.NoPoint) as taken:
                point(*three)
            self.assertIsInstance(taken.exception, errors.AcreError)
            self.assertNotIsInstance(taken.exception, OTHER_REFUSALS)

    def test_third_nought(self):
        for x, y in itertools.product(WHOLES, repeat=2):
            self.refused(x, y, 0)

    def test_no_whole_number(self):
        for thing in NOT_WHOLE:
            for one, other in [(1, 1), (0, 5), (SIXTY, -2), (1, 0), (0, 0)]:
                self.refused(thing, one, other)
                self.refused(one, thing, other)
                self.refused(one, other, thing)
            self.refused(thing, thing, 1)
            self.refused(thing, thing, thing)
        self.refused(True, 1, True)


class Order(unittest.TestCase):
    def test_ordinary(self):
        self.assertIs(before(at(0, 9), at(1, 0)), True)
        self.assertIs(before(at(1, 0), at(0, 9)), False)
        self.assertIs(before(at(1, 0), at(1, 2)), True)
        self.assertIs(before(at(1, 2), at(1, 0)), False)
        self.assertIs(before(at("1/3", 1), at("1/2", 0)), True)
        self.assertIs(before(at("1/2", "1/3"), at("1/2", "1/2")), True)
        self.assertIs(before(at("-1/2", 0), at("-1/3", 0)), True)

    def test_all_pairs(self):
        for P, Q in itertools.product(some_points(), repeat=2):
            with self.subTest(P=P, Q=Q):
                self.assertIs(before(P, Q), place(P) < place(Q))
                self.assertEqual([before(P, Q), before(Q, P)].count(True), 0 if P == Q else 1)

    def test_put_in_order(self):
        some = some_points()
        self.assertEqual(in_order(some + some), sorted(set(some), key=place))
        self.assertEqual(in_order([]), [])
        pairs = [(P, Q) for P in some for Q in some]
        self.assertEqual(by_points(pairs), sorted(pairs, key=lambda pair: (place(pair[0]), place(pair[1]))))

    def test_near_neighbours_are_put_in_order(self):
        w = SIXTY_TWO
        some = [(w - 2, 0, w - 1), (w - 1, 0, w), (w - 3, 0, w - 2), (1, w - 1, w), (1, w - 2, w - 1)]
        self.assertEqual(in_order(some), sorted(some, key=place))


class Turn(unittest.TestCase):
    def test_ordinary(self):
        self.assertEqual(turn(at(0, 0), at(1, 0), at(0, 1)), 1)
        self.assertEqual(turn(at(0, 0), at(1, 0), at(0, -1)), -1)
        self.assertEqual(turn(at(0, 0), at(1, 0), at(7, 0)), 0)
        self.assertEqual(turn(at(0, 0), at(1, 0), at(-7, 0)), 0)
        self.assertEqual(turn(at(0, 0), at(0, 0), at(5, 1)), 0)
        self.assertEqual(turn(at("1/2", 0), at("1/2", "1/3"), at("1/3", 5)), 1)

    def test_all_threes(self):
        for P, Q, R in itertools.product(some_points(), repeat=3):
            wanted = area_of_turn(P, Q, R)
            told = turn(P, Q, R)
            self.assertIs(type(told), int)
            self.assertEqual(told, (wanted > 0) - (wanted < 0), (P, Q, R))

    def test_ever_so_little(self):
        far = THREE_HUNDRED
        self.assertEqual(turn((0, 0, 1), (far, far, 1), (far - 1, far, 1)), 1)
        self.assertEqual(turn((0, 0, 1), (far, far, 1), (far, far - 1, 1)), -1)
        self.assertEqual(turn((0, 0, 1), (far, far, 1), (far - 1, far - 1, 1)), 0)


class Line(unittest.TestCase):
    def test_not_divided(self):
        self.assertEqual(line_of(at(0, 0), at(2, 0)), (0, 2, 0))
        self.assertEqual(line_of(at(2, 0), at(0, 0)), (0, -2, 0))
        self.assertEqual(line_of(at(0, 2), at(4, 6)), (-4, 4, -8))
        self.assertEqual(line_of((1, 2, 3), (4, 5, 6)), (-3, 6, -3))
        self.assertEqual(line_of(at(3, 5), at(3, 5)), (0, 0, 0))

    def test_all_pairs(self):
        for P, Q in itertools.product(some_points(), repeat=2):
            (x1, y1, w1), (x2, y2, w2) = P, Q
            line = line_of(P, Q)
            self.assertEqual(line, (y1 * w2 - w1 * y2, w1 * x2 - x1 * w2, x1 * y2 - y1 * x2))
            self.assertIs(type(line), tuple)
            for R in some_points():
                self.assertEqual(side_of(line, R), turn(P, Q, R))

    def test_side(self):
        self.assertEqual(side_of((0, 1, 0), at(5, 1)), 1)
        self.assertEqual(side_of((0, 1, 0), at(5, -1)), -1)
        self.assertEqual(side_of((0, 1, 0), at(5, 0)), 0)
        self.assertEqual(side_of((0, 0, 0), at(5, 1)), 0)
        self.assertEqual(side_of((SIXTY, -SIXTY, 1), at(SIXTY, SIXTY)), 1)


class Met(unittest.TestCase):
    def test_ordinary(self):
        self.assertEqual(met((0, 1, 0), (1, 0, 0)), (0, 0, 1))
        one = line_of(at(0, 0), at(2, 2))
        other = line_of(at(0, 1), at(1, 0))
        self.assertEqual(met(one, other), (1, 1, 2))
        self.assertEqual(met(other, one), (1, 1, 2))

    def test_nowhere(self):
        level = line_of(at(0, 0), at(1, 0))
        self.assertIsNone(met(level, line_of(at(0, 1), at(5, 1))))
        self.assertIsNone(met(level, line_of(at(5, 1), at(0, 1))))
        self.assertIsNone(met(level, level))
        self.assertIsNone(met(level, line_of(at(7, 0), at(3, 0))))
        self.assertIsNone(met(level, (0, 0, 0)))
        self.assertIsNone(met((0, 0, 0), level))
        self.assertIsNone(met((0, 0, 0), (0, 0, 0)))

    def test_all_pairs(self):
        lines = [line_of(P, Q) for P, Q in itertools.combinations(some_points()[::2], 2)]
        for one, other in itertools.product(lines, repeat=2):
            P = met(one, other)
            if one[0] * other[1] == one[1] * other[0]:
                self.assertIsNone(P)
                continue
            self.assertEqual(P, at(*place(P)))
            self.assertEqual((side_of(one, P), side_of(other, P)), (0, 0))


class Amid(unittest.TestCase):
    def test_ordinary(self):
        self.assertEqual(amid(at(0, 0), at(2, 4)), (1, 2, 1))
        self.assertEqual(amid(at(0, 0), at(1, 0)), (1, 0, 2))
        self.assertEqual(amid(at("1/2", 0), at("1/3", 1)), at("5/12", "1/2"))

    def test_all_pairs(self):
        for P, Q in itertools.product(some_points(), repeat=2):
            (a, b), (c, d) = place(P), place(Q)
            self.assertEqual(amid(P, Q), at((a + c) / 2, (b + d) / 2))
            self.assertEqual(amid(P, Q), amid(Q, P))
            self.assertEqual(amid(P, P), P)


if __name__ == "__main__":
    unittest.main()

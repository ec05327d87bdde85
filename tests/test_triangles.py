import fractions
import itertools
import unittest

from acre.lands import area, land_of
from acre.triangles import corners_of, diagonals, triangles
from tests.samples import (RING_LISTS, SQUARE, area_of_turn, as_stretches, at, drawn_ring_lists, place, plain_above,
                           plain_on, plain_spot, reach, row_of)

COMB = row_of((0, 0), (8, 0), (8, 5), (7, 1), (6, 5), (5, 1), (4, 5), (3, 1), (2, 5), (1, 1), (0, 5))
BEHIND = row_of((0, 0), (2, 1), (4, 2), (6, 3), (4, 4), (2, 3))
IN_A_ROW = [row_of((0, 0), (12, 0), (12, 6), (0, 6)), row_of((2, 3), (3, 2), (4, 3)), row_of((6, 3), (7, 4), (8, 3))]


def lands():
    some = list(RING_LISTS.values()) + [[COMB], [COMB[::-1]], [BEHIND], IN_A_ROW] + drawn_ring_lists(51, 40)
    return [land for land in map(land_of, some) if len(land) < 45]


def plain_corners(land):
    return sorted({P for fence in land for P in fence}, key=place)


def in_land(land, x, y):
    return plain_above(as_stretches(land), at(x, y)) % 2 == 1


def middle(*points):
    return [sum(numbers) / fractions.Fraction(len(points)) for numbers in zip(*map(place, points))]


def only_an_end_of_both(S, T):
    if any(plain_on(P, S) and plain_on(P, T) and not (P in S and P in T) for P in S + T):
        return False
    spot = plain_spot(S, T)
    return set(S) != set(T) and (spot is None or (spot in S and spot in T))


def plain_diagonals(land):
    taken = []
    for S in itertools.combinations(plain_corners(land), 2):
        if all(only_an_end_of_both(S, T) for T in as_stretches(land) + taken) and in_land(land, *middle(*S)):
            taken.append(S)
    return taken


def plain_triangles(land):
    corners = plain_corners(land)
    joined = set(as_stretches(land)) | set(plain_diagonals(land))
    told = []
    for A, B, C in itertools.combinations(corners, 3):
        if not {(A, B), (B, C), (A, C)} <= joined or not in_land(land, *middle(A, B, C)):
            continue
        three = (A, B, C) if area_of_turn(A, B, C) > 0 else (A, C, B)
        if not any(inside(P, three) for P in corners if P not in three):
            told.append(three)
    return sorted(told, key=lambda three: [place(P) for P in three])


def inside(P, three):
    return all(area_of_turn(three[k], three[(k + 1) % 3], P) >= 0 for k in range(3))


class Corners(unittest.TestCase):
    def test_each_once_in_order(self):
        self.assertEqual(corners_of([]), [])
        self.assertEqual(corners_of(land_of([SQUARE])), row_of((0, 0), (0, 4), (4, 0), (4, 4)))
        for land in lands():
            self.assertEqual(corners_of(land), plain_corners(land))


class Diagonals(unittest.TestCase):
    def test_nothing_and_a_triangle(self):
        self.assertEqual(diagonals([]), [])
        self.assertEqual(diagonals(land_of([row_of((0, 0), (3, 0), (0, 3))])), [])

    def test_the_first_of_two_that_cross(self):
        self.assertEqual(diagonals(land_of([SQUARE])), [reach((0, 0), (4, 4))])

    def test_a_bay(self):
        land = land_of([row_of((0, 0), (4, 0), (4, 4), (2, 1), (0, 4))])
        self.assertEqual(diagonals(land), [reach((0, 0), (2, 1)), reach((2, 1), (4, 0))])

    def test_a_corner_amid_the_way(self):
        land = land_of([row_of((0, 0), (3, -3), (6, 0), (3, 0), (1, 3))])
        self.assertEqual(diagonals(land), [reach((0, 0), (3, 0)), reach((3, -3), (3, 0))])
        # A hole with a corner at (2, 2), on the way from (0, 0) to (4, 4).
        told = diagonals(land_of([SQUARE, row_of((2, 2), (3, 1), (4, 2))]))
        self.assertIn(reach((0, 0), (2, 2)), told)
        self.assertNotIn(reach((0, 0), (4, 4)), told)

    def test_none_across_a_hole_or_outside(self):
        for S in diagonals(land_of(RING_LISTS["a hole"])):
            self.assertNotIn(S, [reach((1, 1), (3, 3)), reach((1, 3), (3, 1)), reach((0, 0), (4, 4))])
        for S in diagonals(land_of(RING_LISTS["two squares at a corner"])):
            self.assertIn(S, [reach((0, 0), (1, 1)), reach((1, 1), (2, 2))])

    def test_against_a_plain_look(self):
        for land in lands():
            self.assertEqual(diagonals(land), plain_diagonals(land))


class Triangles(unittest.TestCase):
    def test_by_hand(self):
        self.assertEqual(triangles([]), [])
        self.assertEqual(triangles(land_of([row_of((0, 3), (3, 0), (0, 0))])), [tuple(row_of((0, 0), (3, 0), (0, 3)))])
        self.assertEqual(triangles(land_of([SQUARE])), [
            tuple(row_of((0, 0), (4, 0), (4, 4))), tuple(row_of((0, 0), (4, 4), (0, 4)))])

    def test_a_hole_with_three_corners_is_none(self):
        land = land_of([row_of((0, 0), (9, 0), (9, 9), (0, 9)), row_of((3, 3), (6, 3), (5, 6))])
        told = triangles(land)
        self.assertNotIn(tuple(row_of((3, 3), (6, 3), (5, 6))), told)
        self.assertEqual(len(told), 7)

    def test_a_hole_that_touches_all_three_sides(self):
        land = land_of([row_of((0, 0), (6, 0), (0, 6)), row_of((3, 0), (3, 3), (0, 3))])
        self.assertEqual(triangles(land), [
            tuple(row_of((0, 0), (3, 0), (0, 3))), tuple(row_of((0, 3), (3, 3), (0, 6))),
            tuple(row_of((3, 0), (6, 0), (3, 3)))])

    def test_against_a_plain_look(self):
        for land in lands():
            self.assertEqual(triangles(land), plain_triangles(land))

    def test_they_fill_the_land(self):
        for land in lands():
            told = triangles(land)
            for three in told:
                self.assertIs(type(three), tuple)
                self.assertEqual(min(three, key=place), three[0])
                self.assertGreater(area_of_turn(*three), 0)
            total = sum([area_of_turn(*three) for three in told], fractions.Fraction(0)) / 2
            self.assertEqual(area(land), (total.numerator, total.denominator))
            sides = [tuple(sorted(pair, key=place)) for three in told for pair in itertools.combinations(three, 2)]
            for S, T in itertools.combinations(sorted(set(sides))[:40], 2):
                self.assertTrue(only_an_end_of_both(S, T))
            self.assertLessEqual(max([sides.count(S) for S in sides], default=0), 2)

    def test_the_land_stays_and_the_lists_are_new(self):
        for land in lands()[:20]:
            kept = list(land)
            for ask in (corners_of, diagonals, triangles):
                told = ask(land)
                wanted = list(told)
                told.append("more")
                self.assertEqual(land, kept)
                self.assertEqual(ask(land), wanted)


if __name__ == "__main__":
    unittest.main()

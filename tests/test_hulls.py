import itertools
import random
import unittest

from acre.hulls import hull
from tests.samples import SIXTY, THREE_HUNDRED, area_of_turn, at, drawn_points, place, plain_on, row_of


def plain_hull(points):
    """The ends of those ways from one point to another that have all others at the left hand, or on them."""
    some = sorted(set(points), key=place)
    if len(some) < 3 or all(area_of_turn(some[0], some[-1], P) == 0 for P in some):
        return some if len(some) < 3 else [some[0], some[-1]]
    onward = {}
    for P, Q in itertools.permutations(some, 2):
        turns = [(area_of_turn(P, Q, R), R) for R in some]
        on = [R for size, R in turns if size == 0]
        if all(size >= 0 for size, R in turns) and all(plain_on(R, tuple(sorted((P, Q), key=place))) for R in on):
            onward[P] = Q
    told = [some[0]]
    while onward[told[-1]] != some[0]:
        told.append(onward[told[-1]])
    return told


class Hull(unittest.TestCase):
    def test_few(self):
        self.assertEqual(hull([]), [])
        self.assertEqual(hull(row_of((1, 2))), row_of((1, 2)))
        self.assertEqual(hull(row_of((1, 2)) * 5), row_of((1, 2)))
        self.assertEqual(hull(row_of((3, 2), (1, 2), (3, 2))), row_of((1, 2), (3, 2)))

    def test_on_one_line(self):
        self.assertEqual(hull(row_of((2, 2), (0, 0), (5, 5), (1, 1), (5, 5))), row_of((0, 0), (5, 5)))
        self.assertEqual(hull(row_of((2, 2), (2, -7), (2, 5))), row_of((2, -7), (2, 5)))
        self.assertEqual(hull(row_of((2, 2), (-7, 2), (5, 2))), row_of((-7, 2), (5, 2)))
        self.assertEqual(hull(row_of(("1/3", "2/3"), (0, 0), (1, 2))), row_of((0, 0), (1, 2)))

    def test_inside_and_on_the_sides_are_left_out(self):
        square = row_of((0, 0), (4, 0), (4, 4), (0, 4))
        inner = row_of((2, 2), (1, 3), (2, 0), (4, 1), (3, 4), (0, 2), ("1/2", "7/2"))
        self.assertEqual(hull(square + inner), square)
        self.assertEqual(hull(inner + square[::-1] + square), square)

    def test_going_round_to_the_left_from_the_least(self):
        self.assertEqual(hull(row_of((0, 4), (4, 0), (0, 0))), row_of((0, 0), (4, 0), (0, 4)))
        self.assertEqual(hull(row_of((0, 4), (4, 5), (1, 0))), row_of((0, 4), (1, 0), (4, 5)))

    def test_against_a_plain_look(self):
        draw = random.Random(61)
        for many, span, bottom in itertools.product((1, 2, 3, 4, 6, 12), (1, 2, 5, 30), (1, 3)):
            for _ in range(3):
                points = drawn_points(draw, many, span, bottom)
                self.assertEqual(hull(points), plain_hull(points))

    def test_sixty_and_three_hundred_figures(self):
        draw = random.Random(62)
        for span, bottom in ((SIXTY, 1), (SIXTY, SIXTY), (THREE_HUNDRED, 1), (THREE_HUNDRED, THREE_HUNDRED)):
            points = drawn_points(draw, 12, span, bottom)
            self.assertEqual(hull(points), plain_hull(points))
        far = THREE_HUNDRED
        self.assertEqual(hull(row_of((0, 0), (far, far), (far - 1, far), (1, 2))),
                         row_of((0, 0), (far, far), (far - 1, far), (1, 2)))

    def test_three_hundred(self):
        points = [at(x, x * x) for x in range(-150, 150)]
        self.assertEqual(hull(points[::-1]), points)

    def test_the_list_stays_and_the_list_given_is_new(self):
        for points in ([], row_of((1, 1)), row_of((1, 1), (0, 0)), row_of((0, 0), (1, 0), (0, 1), (0, 0))):
            kept = list(points)
            told = hull(points)
            wanted = list(told)
            told.append("more")
            self.assertEqual(points, kept)
            self.assertEqual(hull(points), wanted)


if __name__ == "__main__":
    unittest.main()

import copy
import random
import unittest

from acre.lands import land_of
from acre.nests import lies_in, nest
from acre.rings import rings_of
from tests.samples import RING_LISTS, SQUARE, at, drawn_ring_lists, place, plain_above, plain_sides, row_of


def square(x, y, side):
    return row_of((x, y), (x + side, y), (x + side, y + side), (x, y + side))


def plain_lies_in(ring, other):
    (a, b), (c, d) = place(ring[0]), place(ring[1])
    return plain_above(plain_sides([other]), at((a + c) / 2, (b + d) / 2)) % 2 == 1


def plain_nest(rings):
    told = []
    for ring in rings:
        holders = [other for other in rings if other is not ring and plain_lies_in(ring, other)]
        inner = [one for one in holders if all(other is one or plain_lies_in(one, other) for other in holders)]
        told.append(next((k for k, other in enumerate(rings) if any(other is one for one in inner)), None))
    return told


class LiesIn(unittest.TestCase):
    def test_in_and_out(self):
        self.assertIs(lies_in(square(1, 1, 2), SQUARE), True)
        self.assertIs(lies_in(square(1, 1, 2)[::-1], SQUARE[::-1]), True)
        self.assertIs(lies_in(SQUARE, square(1, 1, 2)), False)
        self.assertIs(lies_in(square(9, 0, 2), SQUARE), False)
        self.assertIs(lies_in(square(1, 9, 2), SQUARE), False)
        self.assertIs(lies_in(square(1, -9, 2), SQUARE), False)

    def test_at_a_corner(self):
        self.assertIs(lies_in(row_of((0, 0), (1, 2), (2, 1)), SQUARE), True)
        self.assertIs(lies_in(SQUARE, row_of((0, 0), (1, 2), (2, 1))), False)
        self.assertIs(lies_in(square(4, 4, 2), SQUARE), False)


    def test_the_first_side_tells_it(self):
        # The third point, or a point amid the first and the third one, would tell otherwise.
        ring = row_of((0, 0), (5, 4), (10, 0), (5, 8))
        self.assertIs(lies_in(ring, square(4, -1, 2)), False)
        self.assertIs(lies_in(ring, row_of((-1, -1), (11, -1), (5, 20))), True)
        # The second point is a corner of both.
        self.assertIs(lies_in(row_of((1, 1), (4, 4), (2, 3)), SQUARE), True)
        self.assertIs(lies_in(row_of((1, 1), (4, 4), (3, 0)), SQUARE), True)


class Nest(unittest.TestCase):
    def test_none_and_one(self):
        self.assertEqual(nest([]), [])
        self.assertEqual(nest([SQUARE]), [None])

    def test_beside_one_another(self):
        rings = rings_of(land_of([square(0, 0, 9), square(1, 1, 2), square(5, 1, 2), square(1, 5, 2)]))
        self.assertEqual(nest(rings), [None, 0, 0, 0])
        self.assertEqual(nest([square(0, 0, 2), square(5, 5, 2)]), [None, None])

    def test_islands_in_lakes_in_land(self):
        rings = rings_of(land_of([square(0, 0, 20), square(1, 1, 18), square(2, 2, 16), square(3, 3, 2),
                                  square(8, 8, 6), square(9, 9, 2)]))
        self.assertEqual([ring[0] for ring in rings], row_of((0, 0), (1, 1), (2, 2), (3, 3), (8, 8), (9, 9)))
        self.assertEqual(nest(rings), [None, 0, 1, 2, 2, 4])
        turned = rings[::-1]
        self.assertEqual(nest(turned), [1, 3, 3, 4, 5, None])

    def test_touching_at_corners(self):
        for name, wanted in [("a hole at a corner", [1, None]), ("a hole at a side", [None, 0]),
                             ("two holes that touch", [None, 0, 0]), ("two squares at a corner", [None, None]),
                             ("two holes at one corner", [None, 0, 0, 0])]:
            with self.subTest(name=name):
                self.assertEqual(nest(rings_of(land_of(RING_LISTS[name]))), wanted)

    def test_in_any_order_against_a_plain_look(self):
        draw = random.Random(41)
        for rings in list(RING_LISTS.values()) + drawn_ring_lists(42, 40):
            told = rings_of(land_of(rings))
            for _ in range(3):
                kept = copy.deepcopy(told)
                answer = nest(told)
                self.assertEqual(answer, plain_nest(told))
                self.assertEqual(told, kept)
                wanted = list(answer)
                answer.append("more")
                self.assertEqual(nest(told), wanted)
                draw.shuffle(told)


if __name__ == "__main__":
    unittest.main()

import fractions
import itertools
import unittest

from acre.lands import land_of
from acre.points import before
from acre.rings import rings_of
from acre.stretches import meet
from tests.samples import (RING_LISTS, SQUARE, as_stretches, drawn_ring_lists, near, place, plain_above, plain_sides,
                           plain_touches, row_of)


def right_turn(P, back, tip):
    """How far one turns to the right hand from the way back to the way to the tip: from 0 to 4 for once round."""
    (x, y), (a, b), (c, d) = place(P), place(back), place(tip)
    dot = (a - x) * (c - x) + (b - y) * (d - y)
    cross = (a - x) * (d - y) - (b - y) * (c - x)
    share = dot / (abs(dot) + abs(cross))
    return 1 - share if cross < 0 else 3 + share


def plain_rings(land):
    """The rule of the document, step by step."""
    left = sorted(land, key=lambda fence: (place(fence[0]), place(fence[1])))
    told = []
    while left:
        start = fence = left[0]
        way = [start[0]]
        while True:
            left.remove(fence)
            P = fence[1]
            following = min((other for other in land if other[0] == P),
                            key=lambda other: right_turn(P, fence[0], other[1]))
            if following == start:
                break
            if P in way:
                told.append(way[way.index(P):])
                way = way[:way.index(P)]
            way.append(P)
            fence = following
        told.append(way)
    turned = []
    for ring in told:
        begin = ring.index(min(ring, key=place))
        turned.append(ring[begin:] + ring[:begin])
    return sorted(turned, key=lambda ring: [place(P) for P in ring[:2]])


def double_area(ring):
    total = 0
    for P, Q in zip(ring, ring[1:] + ring[:1]):
        (a, b), (c, d) = place(P), place(Q)
        total += a * d - c * b
    return total


def lands():
    return [land_of(rings) for rings in list(RING_LISTS.values()) + drawn_ring_lists(31, 60)]


class Rings(unittest.TestCase):
    def test_nothing(self):
        self.assertEqual(rings_of([]), [])

    def test_a_square(self):
        self.assertEqual(rings_of(land_of([SQUARE])), [SQUARE])
        self.assertEqual(rings_of(land_of([SQUARE[::-1]])), [SQUARE])

    def test_a_hole(self):
        self.assertEqual(rings_of(land_of(RING_LISTS["a hole"])), [SQUARE, row_of((1, 1), (1, 3), (3, 3), (3, 1))])

    def test_two_squares_at_a_corner(self):
        for name in ("two squares at a corner", "two squares at the other corner"):
            self.assertEqual(rings_of(land_of(RING_LISTS[name])), RING_LISTS[name])

    def test_a_hole_at_a_corner(self):
        self.assertEqual(rings_of(land_of(RING_LISTS["a hole at a corner"])), [row_of((0, 0), (1, 2), (2, 1)), SQUARE])

    def test_a_hole_at_a_side(self):
        self.assertEqual(rings_of(land_of(RING_LISTS["a hole at a side"])),
                         [row_of((0, 0), (2, 0), (4, 0), (4, 4), (0, 4)), row_of((1, 1), (3, 1), (2, 0))])

    def test_two_holes_that_touch(self):
        self.assertEqual(rings_of(land_of(RING_LISTS["two holes that touch"])), [
            row_of((0, 0), (6, 0), (6, 6), (0, 6)), row_of((1, 1), (1, 3), (3, 3), (3, 1)),
            row_of((3, 3), (3, 5), (5, 5), (5, 3))])

    def test_four_wedges(self):
        self.assertEqual(rings_of(land_of(RING_LISTS["four wedges at a point"])), [
            row_of((-3, -1), (0, 0), (-3, 1)), row_of((-1, -3), (1, -3), (0, 0)), row_of((-1, 3), (0, 0), (1, 3)),
            row_of((0, 0), (3, -1), (3, 1))])

    def test_a_chain_of_holes_parts_nothing_that_is_one(self):
        told = rings_of(land_of(RING_LISTS["a chain of holes"]))
        self.assertEqual(len(told), len(plain_rings(land_of(RING_LISTS["a chain of holes"]))))

    def test_against_the_rule_step_by_step(self):
        for land in lands():
            self.assertEqual(rings_of(land), plain_rings(land))

    def test_kinds_and_order(self):
        for land in lands():
            told = rings_of(land)
            self.assertTrue(all(type(ring) is list and len(ring) >= 3 for ring in told))
            for ring in told:
                self.assertTrue(all(before(ring[0], P) for P in ring[1:]))
                self.assertEqual(len(set(ring)), len(ring))
            self.assertEqual(told, sorted(told, key=lambda ring: [place(P) for P in ring[:2]]))

    def test_each_fence_is_a_side_of_just_one(self):
        for land in lands():
            told = [pair for ring in rings_of(land) for pair in zip(ring, ring[1:] + ring[:1])]
            self.assertEqual(sorted(told), sorted(land))

    def test_two_have_only_corners_of_both_in_common(self):
        for land in lands()[:50]:
            told = rings_of(land)
            for one, other in itertools.combinations(told, 2):
                for S, T in itertools.product(plain_sides([one]), plain_sides([other])):
                    shared = meet(S, T)
                    if shared is not None:
                        self.assertEqual(shared[0], "spot")
                        self.assertTrue(shared[1] in one and shared[1] in other)

    def test_the_sign_of_the_sum(self):
        for land in lands():
            for ring in rings_of(land):
                # Land lies at the left hand of a side: so right within the ring where the left hand is within it.
                spot = inner_spot(ring, as_stretches(land))
                self.assertEqual(double_area(ring) > 0, plain_above(plain_sides([ring]), spot) % 2 == 1)
                self.assertNotEqual(double_area(ring), 0)

    def test_the_land_of_the_rings_is_the_land_again(self):
        for land in lands():
            self.assertEqual(land_of(rings_of(land)), land)

    def test_the_land_stays_and_the_lists_are_new(self):
        for land in lands()[:30]:
            kept = list(land)
            told = rings_of(land)
            wanted = [list(ring) for ring in told]
            for ring in told:
                ring.append("more")
            told.append("more")
            self.assertEqual(land, kept)
            self.assertEqual(rings_of(land), wanted)


def inner_spot(ring, stretches):
    """A place in the land, near the middle of the ring's first side."""
    fence = (ring[0], ring[1])
    find, part = near(fence, 1), fractions.Fraction(1)
    while any(plain_touches(S, (near(fence, 0)(0), find(part))) for S in stretches if set(S) != set(fence)):
        part /= 4
    return find(part)


if __name__ == "__main__":
    unittest.main()

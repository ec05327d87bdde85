import copy
import fractions
import itertools
import random
import unittest

from acre.counts import flanks, hands
from acre.lands import area, fences_of, is_land, land_of, sides_of, where
from acre.sweep import pieces
from tests.samples import (RING_LISTS, SIXTY, SQUARE, THREE_HUNDRED, at, drawn_ring_lists, place, plain_in,
                           plain_is_land, plain_sides, probes, reach, row_of)


def ways(*places):
    """The fences from each place to the next, and from the last one to the first, in their order."""
    points = row_of(*places)
    return sorted(zip(points, points[1:] + points[:1]), key=lambda fence: (place(fence[0]), place(fence[1])))


def in_order(fences):
    return sorted(fences, key=lambda fence: (place(fence[0]), place(fence[1])))


def shoelace(fences):
    doubled = 0
    for P, Q in fences:
        (a, b), (c, d) = place(P), place(Q)
        doubled += a * d - c * b
    return doubled / 2


class Sides(unittest.TestCase):
    def test_ring_by_ring(self):
        rings = [row_of((2, 0), (0, 0), (1, 5)), row_of((9, 9), (8, 8))]
        self.assertEqual(sides_of(rings), [
            reach((0, 0), (2, 0)), reach((0, 0), (1, 5)), reach((1, 5), (2, 0)), reach((8, 8), (9, 9)),
            reach((8, 8), (9, 9))])

    def test_none(self):
        for rings in ([], [[]], [row_of((1, 1))], [row_of((1, 1), (1, 1))], [[], row_of((1, 1)), []]):
            self.assertEqual(sides_of(rings), [])

    def test_alike_points_behind_one_another(self):
        self.assertEqual(sides_of([row_of((0, 0), (0, 0), (1, 0), (1, 0), (0, 0))]), [reach((0, 0), (1, 0))] * 2)

    def test_against_a_plain_look(self):
        for rings in list(RING_LISTS.values()) + drawn_ring_lists(1, 20):
            self.assertEqual(sides_of(rings), plain_sides(rings))


class LandOf(unittest.TestCase):
    def test_a_square_either_way_round(self):
        wanted = ways((0, 0), (4, 0), (4, 4), (0, 4))
        for ring in (SQUARE, SQUARE[::-1], SQUARE[2:] + SQUARE[:2]):
            self.assertEqual(land_of([ring]), wanted)

    def test_nothing_left(self):
        for name in ("none", "an empty ring", "one point", "two points", "twice round", "a ring and itself"):
            with self.subTest(name=name):
                self.assertEqual(land_of(RING_LISTS[name]), [])

    def test_told_as_less(self):
        square = land_of([SQUARE])
        for name in ("thrice", "to and fro", "points amid sides"):
            with self.subTest(name=name):
                self.assertEqual(land_of(RING_LISTS[name]), square)

    def test_a_bow(self):
        self.assertEqual(land_of(RING_LISTS["a bow"]), in_order(
            ways((0, 0), (2, 2), (0, 4)) + ways((4, 0), (4, 4), (2, 2))))

    def test_two_squares_at_a_side(self):
        self.assertEqual(land_of(RING_LISTS["two squares at a side"]), ways((0, 0), (2, 0), (2, 1), (0, 1)))

    def test_two_squares_at_a_corner(self):
        self.assertEqual(land_of(RING_LISTS["two squares at a corner"]), in_order(
            ways((0, 0), (1, 0), (1, 1), (0, 1)) + ways((1, 1), (2, 1), (2, 2), (1, 2))))

    def test_a_hole_at_a_side_parts_the_fence(self):
        self.assertEqual(land_of(RING_LISTS["a hole at a side"]), in_order(
            ways((0, 0), (2, 0), (1, 1), (3, 1), (2, 0), (4, 0), (4, 4), (0, 4))))

    def test_is_a_land_with_the_points_that_it_ought_to_have(self):
        for rings in list(RING_LISTS.values()) + drawn_ring_lists(2, 40):
            with self.subTest(rings=rings):
                land = land_of(rings)
                self.assertIs(plain_is_land(land), True)
                self.assertIs(is_land(land), True)
                for P in probes(3) + [P for ring in rings for P in ring]:
                    wanted = plain_in(rings, P)
                    if wanted is not None:
                        self.assertEqual(where(land, P), 1 if wanted else -1)

    def test_the_same_land_told_otherwise(self):
        draw = random.Random(4)
        for rings in list(RING_LISTS.values()) + drawn_ring_lists(5, 30):
            land = land_of(rings)
            other = []
            for ring in rings:
                ring = list(ring)
                if ring:
                    begin = draw.randrange(len(ring))
                    ring = ring[begin:] + ring[:begin]
                    (a, b), (c, d) = place(ring[0]), place(ring[-1])
                    part = fractions.Fraction(draw.randint(0, 5), 5)
                    ring.append(at(a + (c - a) * part, b + (d - b) * part))
                other.append(ring[::draw.choice((1, -1))])
            draw.shuffle(other)
            self.assertEqual(land_of(other), land)
            self.assertEqual(land_of(rings + [SQUARE] + [SQUARE]), land)
            self.assertEqual(land_of([[P for ring in ([ring, ring[:1]] if ring else []) for P in ring]
                                      for ring in rings]), land)

    def test_what_is_handed_in_stays_and_what_is_given_is_new(self):
        for rings in list(RING_LISTS.values()):
            kept = copy.deepcopy(rings)
            land, sides = land_of(rings), sides_of(rings)
            self.assertEqual(rings, kept)
            told = (list(land), list(sides))
            land.append("more")
            sides.append("more")
            self.assertEqual((land_of(rings), sides_of(rings)), told)

    def test_three_hundred(self):
        ring = [at(x, 0 if x % 2 else 5) for x in range(150)] + [at(x, 9) for x in range(149, -1, -1)]
        self.assertEqual(len(land_of([ring])), 152)
        draw = random.Random(9)
        ring = [at(draw.randint(-99, 99), draw.randint(-99, 99)) for _ in range(300)]
        land = land_of([ring])
        self.assertIs(is_land(land), True)
        for P in probes(10, 10, 90):
            self.assertEqual(where(land, P), 1 if plain_in([ring], P) else -1)

    def test_three_hundred_figures(self):
        far = THREE_HUNDRED
        rings = [row_of((0, 0), (far, 1), (1, far)), row_of((-1, -1), (far, far), (far, 0))]
        land = land_of(rings)
        self.assertIs(plain_is_land(land), True)
        self.assertEqual(where(land, at(far // 2, 1)), 1 if plain_in(rings, at(far // 2, 1)) else -1)


class Flanks(unittest.TestCase):
    def test_as_the_hands_of_each(self):
        for rings in list(RING_LISTS.values()) + drawn_ring_lists(7, 30):
            sides = sides_of(rings)
            cut = pieces(sides)
            told = flanks([S for S, owners in cut], [len(owners) % 2 for S, owners in cut])
            self.assertEqual([(left == 1, right == 1) for left, right in told], [hands(S, sides) for S, owners in cut])


class FencesOf(unittest.TestCase):
    def test_alike_truths_make_no_fence(self):
        self.assertEqual(fences_of([]), [])
        self.assertEqual(fences_of([(reach((0, 0), (1, 0)), True, True), (reach((0, 1), (1, 1)), False, False)]), [])

    def test_either_way_round(self):
        low, high = reach((0, 0), (4, 0)), reach((0, 4), (4, 4))
        left, right = reach((0, 0), (0, 4)), reach((4, 0), (4, 4))
        square = [(left, False, True), (low, True, False), (high, False, True), (right, True, False)]
        self.assertEqual(fences_of(square), ways((0, 0), (4, 0), (4, 4), (0, 4)))
        for number in range(4):
            self.assertEqual(fences_of(square[number:] + square[:number]), fences_of(square))
        without = [(S, not one, not other) for S, one, other in square]
        self.assertEqual(fences_of(without), ways((0, 4), (4, 4), (4, 0), (0, 0)))

    def test_straight_on(self):
        rows = [(reach((0, 0), (1, 0)), True, False), (reach((1, 0), (3, 0)), True, False),
                (reach((3, 0), (4, 0)), True, False), (reach((0, 0), (1, 1)), False, True),
                (reach((1, 1), (2, 2)), False, True), (reach((2, 2), (4, 0)), False, True),
                (reach((1, 0), (1, 1)), True, True)]
        self.assertEqual(fences_of(rows), ways((0, 0), (4, 0), (2, 2)))

    def test_not_where_others_end(self):
        rows = [(S, one, other) for (S, owners), (one, other) in zip(
            pieces(sides_of(RING_LISTS["a hole at a side"])),
            [hands(S, sides_of(RING_LISTS["a hole at a side"]))
             for S, owners in pieces(sides_of(RING_LISTS["a hole at a side"]))])]
        told = fences_of(rows)
        self.assertIn((at(0, 0), at(2, 0)), told)
        self.assertIn((at(2, 0), at(4, 0)), told)

    def test_two_that_cross_are_not_put_together(self):
        rows = [(reach((0, 0), (2, 2)), True, False), (reach((2, 2), (4, 4)), False, True),
                (reach((0, 4), (2, 2)), False, True), (reach((2, 2), (4, 0)), True, False),
                (reach((0, 0), (0, 4)), False, True), (reach((4, 0), (4, 4)), True, False)]
        self.assertEqual(fences_of(rows), land_of(RING_LISTS["a bow"]))

    def test_rows_stay(self):
        rows = [(reach((0, 0), (4, 0)), True, False), (reach((0, 0), (2, 2)), False, True),
                (reach((2, 2), (4, 0)), False, True)]
        kept = list(rows)
        fences_of(rows).append("more")
        self.assertEqual(rows, kept)
        self.assertEqual(fences_of(rows), ways((0, 0), (4, 0), (2, 2)))


class Where(unittest.TestCase):
    def test_a_square(self):
        land = land_of([SQUARE])
        told = {at(2, 2): 1, at(0, 0): 0, at(4, 4): 0, at(0, 2): 0, at(2, 0): 0, at(4, 1): 0, at(0, -1): -1,
                at(0, 5): -1, at(4, -1): -1, at(4, 5): -1, at(-1, 2): -1, at(5, 2): -1, at("1/7", "27/7"): 1}
        self.assertEqual({P: where(land, P) for P in told}, told)

    def test_straight_below_and_above_corners(self):
        land = land_of([row_of((0, 0), (2, 1), (4, 0), (3, 3), (4, 6), (2, 5), (0, 6), (1, 3))])
        for x, y, told in [(2, 0, -1), (2, 1, 0), (2, 2, 1), (2, 5, 0), (2, 6, -1), (1, 3, 0), (3, 3, 0), (1, 4, 1),
                           (3, 2, 1), (0, 3, -1), (4, 3, -1), (3, -1, -1), (1, 0, -1)]:
            self.assertEqual(where(land, at(x, y)), told, (x, y))

    def test_nothing(self):
        self.assertEqual(where([], at(0, 0)), -1)

    def test_a_hole(self):
        land = land_of(RING_LISTS["an island in a hole"])
        self.assertEqual([where(land, at(x, x)) for x in ("1/2", 1, 2, 3, "7/2", 4, 6, 7, 8, "17/2", 9, 10)],
                         [1, 0, -1, 0, 1, 0, 0, -1, 0, 1, 0, -1])


class Area(unittest.TestCase):
    def test_by_hand(self):
        self.assertEqual(area([]), (0, 1))
        self.assertEqual(area(land_of([SQUARE])), (16, 1))
        self.assertEqual(area(land_of([row_of((0, 0), (1, 0), (0, 1))])), (1, 2))
        self.assertEqual(area(land_of(RING_LISTS["a hole"])), (12, 1))
        self.assertEqual(area(land_of(RING_LISTS["a bow"])), (8, 1))
        self.assertEqual(area(land_of([row_of((0, 0), ("1/3", 0), ("1/3", "1/5"))])), (1, 30))

    def test_against_a_plain_sum(self):
        for rings in list(RING_LISTS.values()) + drawn_ring_lists(8, 30):
            land = land_of(rings)
            wanted = shoelace(land)
            self.assertEqual(area(land), (wanted.numerator, wanted.denominator) if land else (0, 1))
            self.assertEqual(area(land)[0] > 0, land != [])

    def test_far_off(self):
        ring = row_of((-SIXTY, -SIXTY), (SIXTY, -SIXTY), (SIXTY, SIXTY), (-SIXTY, SIXTY))
        self.assertEqual(area(land_of([ring])), (4 * SIXTY * SIXTY, 1))


class IsLand(unittest.TestCase):
    def lands(self):
        return [land_of(rings) for rings in list(RING_LISTS.values()) + drawn_ring_lists(12, 14)]

    def no_land(self, fences):
        self.assertIs(is_land(fences), False, fences)

    def test_nothing(self):
        self.assertIs(is_land([]), True)

    def test_a_fence_left_out_turned_about_or_told_twice(self):
        for land in self.lands():
            for number, (P, Q) in enumerate(land):
                self.no_land(land[:number] + land[number + 1:])
                self.no_land(in_order(land[:number] + [(Q, P)] + land[number + 1:]))
                self.no_land(land[:number] + [(P, Q)] + land[number:])
                self.no_land(in_order(land + [(Q, P)]))

    def test_a_fence_cut_in_two(self):
        for land in self.lands():
            for number, (P, Q) in enumerate(land):
                middle = at(*[(one + other) / 2 for one, other in zip(place(P), place(Q))])
                self.no_land(in_order(land[:number] + land[number + 1:] + [(P, middle), (middle, Q)]))

    def test_two_exchanged(self):
        for land in self.lands():
            for one, other in itertools.combinations(range(min(len(land), 6)), 2):
                fences = list(land)
                fences[one], fences[other] = fences[other], fences[one]
                self.no_land(fences)

    def test_two_that_cross(self):
        one = ways((0, 0), (4, 0), (4, 4), (0, 4))
        self.no_land(in_order(one + ways((1, -1), (2, -1), (2, 5), (1, 5))))
        self.no_land(in_order(one + ways((2, 2), (6, 2), (6, 6), (2, 6))))
        self.no_land(ways((0, 0), (4, 4), (4, 0), (0, 4)))

    def test_an_end_within_another_fence(self):
        one = ways((0, 0), (4, 0), (4, 4), (0, 4))
        self.no_land(in_order(one + ways((4, 1), (6, 0), (6, 2))))
        self.no_land(in_order(one + ways((2, 0), (1, 1), (3, 1))))

    def test_part_of_a_border_in_common(self):
        one = ways((0, 0), (4, 0), (4, 4), (0, 4))
        self.no_land(in_order(one + ways((4, 1), (6, 1), (6, 2), (4, 2))))
        self.no_land(in_order(one + ways((4, 0), (6, 0), (6, 4), (4, 4))))

    def test_land_at_the_wrong_hand(self):
        for land in self.lands():
            if land:
                self.no_land(in_order([(Q, P) for P, Q in land]))
        one = ways((0, 0), (4, 0), (4, 4), (0, 4))
        self.no_land(in_order(one + ways((1, 1), (2, 1), (2, 2), (1, 2))))
        self.assertIs(is_land(in_order(one + ways((1, 2), (2, 2), (2, 1), (1, 1)))), True)

    def test_a_fence_that_could_go_on_straight(self):
        self.no_land(ways((0, 0), (2, 0), (4, 0), (4, 4), (0, 4)))
        self.no_land(ways((0, 0), (4, 0), (4, 4), (0, 4), (0, 1)))
        self.no_land(ways((0, 0), (4, 2), (6, 3), (0, 3)))

    def test_no_closed_way(self):
        self.no_land([(at(0, 0), at(1, 0))])
        self.no_land(ways((0, 0), (1, 0)))
        self.no_land([(at(0, 0), at(1, 0)), (at(0, 1), at(1, 0)), (at(1, 0), at(0, 0)), (at(1, 0), at(0, 1))])

    def test_two_in_one_list(self):
        one = ways((0, 0), (4, 0), (4, 4), (0, 4))
        self.assertIs(is_land(in_order(one + ways((5, 0), (9, 0), (9, 4), (5, 4)))), True)
        self.assertIs(is_land(in_order(one + ways((4, 4), (9, 4), (9, 9), (4, 9)))), True)
        self.no_land(one + one)
        self.no_land(ways((5, 0), (9, 0), (9, 4), (5, 4)) + one)

    def test_against_a_plain_look(self):
        draw = random.Random(13)
        for number in range(300):
            points = [(draw.randint(0, 2), draw.randint(0, 2)) for _ in range(draw.choice((3, 4, 6)))]
            fences = [(P, Q) for P, Q in ways(*points) if P != Q]
            self.assertIs(is_land(fences), plain_is_land(fences), fences)

    def test_the_list_stays(self):
        for land in self.lands():
            kept = list(land)
            is_land(land)
            where(land, at(1, 1))
            area(land)
            self.assertEqual(land, kept)


if __name__ == "__main__":
    unittest.main()

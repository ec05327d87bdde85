import fractions
import random
import unittest

from acre.joins import less
from acre.lands import area, is_land, land_of, where
from acre.sights import lit, seen_from, sight
from tests.samples import (RING_LISTS, SIXTY, SQUARE, area_of_turn, as_stretches, at, drawn_ring_lists, place, plain_on,
                           plain_spot, probes, row_of)

COMB = row_of((0, 0), (8, 0), (8, 5), (7, 1), (6, 5), (5, 1), (4, 5), (3, 1), (2, 5), (1, 1), (0, 5))
BEHIND = [row_of((0, 0), (12, 0), (12, 12), (0, 12)), row_of((4, 4), (5, 4), (4, 5)), row_of((6, 6), (8, 6), (8, 8))]
NAMES = ("a square", "a triangle", "a hole", "an island in a hole", "a hole at a corner", "a hole at a side",
         "two holes that touch", "two squares at a corner", "a bow", "a star", "four wedges at a point", "far off",
         "two holes at one corner", "a chain of holes", "two squares that overlap")


def lands():
    told = [land_of(RING_LISTS[name]) for name in NAMES] + [land_of([COMB]), land_of(BEHIND)]
    return told + [land for land in map(land_of, drawn_ring_lists(101, 28)) if 0 < len(land) < 45]


def eyes(land, seed=102):
    """Some points in a land: near its middle parts, and on lines through two of its corners."""
    corners = sorted({P for fence in land for P in fence}, key=place)
    draw = random.Random(seed)
    found = [P for P in probes(seed, 12) if where(land, P) == 1][:2]
    for _ in range(30):
        pair = draw.sample(corners, 2)
        part = fractions.Fraction(draw.randint(-2, 7), 5)
        (a, b), (c, d) = place(pair[0]), place(pair[1])
        found.append(at(a + (c - a) * part, b + (d - b) * part))
    return [P for P in found if where(land, P) == 1][:5]


def left_turn(origin, first, tip):
    """How far one turns to the left from the way to the first to the way to the tip: from 0 on, 4 once round."""
    (x, y), (a, b), (c, d) = place(origin), place(first), place(tip)
    dot, cross = (a - x) * (c - x) + (b - y) * (d - y), (a - x) * (d - y) - (b - y) * (c - x)
    share = dot / (abs(dot) + abs(cross))
    return 1 - share if cross >= 0 else 3 + share


def plain_sight(land, P):
    corners = sorted({Q for fence in land for Q in fence}, key=place)
    turns = {}
    for Q in corners:
        turns.setdefault(left_turn(P, corners[0], Q), Q)
    ways = [turns[key] for key in sorted(turns)]
    told = []
    for one, other in zip(ways, ways[1:] + ways[:1]):
        (a, b), (c, d) = place(one), place(other)
        fence = min((hit for hit in (crossed(P, ((a + c) / 2, (b + d) / 2), F) for F in land) if hit))[1]
        told.append((P, on_way(P, one, fence), on_way(P, other, fence)))
    return told


def crossed(P, through, fence):
    """How far along a way a fence is crossed, and the fence; or None."""
    (x, y), (a, b), (c, d) = place(P), place(fence[0]), place(fence[1])
    dx, dy = through[0] - x, through[1] - y
    bottom = dx * (d - b) - dy * (c - a)
    if bottom == 0:
        return None
    far = ((a - x) * (d - b) - (b - y) * (c - a)) / bottom
    share = ((a - x) * dy - (b - y) * dx) / bottom
    return (far, fence) if far > 0 and 0 <= share <= 1 else None


def on_way(P, tip, fence):
    (x, y), (c, d) = place(P), place(tip)
    (a, b), (e, f) = place(fence[0]), place(fence[1])
    far = ((a - x) * (f - b) - (b - y) * (e - a)) / ((c - x) * (f - b) - (d - y) * (e - a))
    return at(x + far * (c - x), y + far * (d - y))


def plain_seen(land, P, Q):
    if P == Q:
        return True
    way = tuple(sorted((P, Q), key=place))
    for S in as_stretches(land):
        if any(plain_on(R, way) and R != Q for R in S) or (plain_on(P, S)):
            return False
        spot = plain_spot(way, S)
        if spot is not None and spot != Q:
            return False
    return True


def on_a_way_through_a_corner(land, P, Q):
    return any(area_of_turn(P, corner, Q) == 0 for fence in land for corner in fence)


class Sight(unittest.TestCase):
    def test_a_square(self):
        P = at(1, 1)
        self.assertEqual(sight(land_of([SQUARE]), P), [
            (P, at(0, 0), at(4, 0)), (P, at(4, 0), at(4, 4)), (P, at(4, 4), at(0, 4)), (P, at(0, 4), at(0, 0))])

    def test_not_in_the_land(self):
        land = land_of(RING_LISTS["a hole"])
        for P in row_of((2, 2), (9, 9), (0, 0), (2, 0), (1, 2), (3, 3), (-1, 0)):
            self.assertEqual(sight(land, P), [])
            self.assertEqual(seen_from(land, P), [])
        self.assertEqual(sight([], at(0, 0)), [])

    def test_corners_behind_one_another(self):
        told = sight(land_of(BEHIND), at(2, 2))
        # The corners at (0, 0), (4, 5) and (5, 4), and on one way (6, 6), (8, 8), (12, 12).
        self.assertEqual(len(told), len({(T[1], T[2]) for T in told}))
        self.assertEqual(told[0][1], at(0, 0))
        self.assertEqual(told, plain_sight(land_of(BEHIND), at(2, 2)))

    def test_a_hole_hides(self):
        land = land_of([row_of((0, 0), (8, 0), (8, 8), (0, 8)), row_of((4, 3), (5, 3), (5, 5), (4, 5))])
        self.assertEqual(seen_from(land, at(2, 4)), land_of([row_of(
            (0, 0), (8, 0), (8, 1), (4, 3), (4, 5), (8, 7), (8, 8), (0, 8))]))

    def test_through_a_corner_where_lands_touch_nothing_is_seen(self):
        land = land_of(RING_LISTS["two squares at a corner"])
        self.assertEqual(seen_from(land, at("1/2", "1/2")), land_of([RING_LISTS["two squares at a corner"][0]]))

    def test_against_a_plain_look(self):
        for land in lands():
            for P in eyes(land):
                self.assertEqual(sight(land, P), plain_sight(land, P))

    def test_going_round_to_the_left(self):
        for land in lands():
            first = min((Q for fence in land for Q in fence), key=place)
            for P in eyes(land):
                told = sight(land, P)
                self.assertIs(type(told), list)
                self.assertTrue(all(type(three) is tuple and three[0] == P for three in told))
                self.assertTrue(all(area_of_turn(*three) > 0 for three in told))
                self.assertEqual(left_turn(P, first, told[0][1]), 0)
                turns = [left_turn(P, first, three[1]) for three in told]
                self.assertEqual(turns, sorted(set(turns)))

    def test_sixty_figures(self):
        far = SIXTY
        land = land_of([row_of((0, 0), (far, 0), (far, far), (0, far)), row_of((far // 2, far // 2), (far // 2 + 1, far // 3), (far // 3, 7))])
        P = at(far // 5, far // 2)
        self.assertEqual(sight(land, P), plain_sight(land, P))


class Seen(unittest.TestCase):
    def test_has_the_points_that_are_seen(self):
        draw = random.Random(103)
        for land in lands():
            for P in eyes(land)[:3]:
                told = seen_from(land, P)
                self.assertIs(is_land(told), True)
                self.assertEqual(less(told, land), [])
                for Q in draw.sample(probes(104, 60), 15):
                    if where(land, Q) == 0 or where(told, Q) == 0 or on_a_way_through_a_corner(land, P, Q):
                        continue
                    self.assertEqual(where(told, Q) == 1, where(land, Q) == 1 and plain_seen(land, P, Q))

    def test_without_bays_all_is_seen(self):
        for name in ("a square", "a triangle"):
            land = land_of(RING_LISTS[name])
            for P in eyes(land):
                self.assertEqual(seen_from(land, P), land)


class Lit(unittest.TestCase):
    def test_by_none_and_by_points_outside(self):
        land = land_of([COMB])
        self.assertEqual(lit(land, []), [])
        self.assertEqual(lit(land, row_of((9, 9), (0, 0), (7, 3))), [])
        self.assertEqual(lit([], row_of((1, 1))), [])

    def test_by_one(self):
        for land in lands()[:12]:
            for P in eyes(land)[:2]:
                self.assertEqual(lit(land, [P]), seen_from(land, P))

    def test_by_several(self):
        for land in lands():
            points = eyes(land)[:3]
            told = lit(land, points)
            self.assertIs(is_land(told), True)
            self.assertEqual(lit(land, points[::-1]), told)
            self.assertEqual(lit(land, points + points), told)
            for P in points:
                self.assertEqual(less(seen_from(land, P), told), [])
            for Q in probes(105, 12):
                seen = [plain_seen(land, P, Q) and where(land, Q) == 1 for P in points]
                if where(told, Q) != 0 and where(land, Q) != 0 \
                        and not any(on_a_way_through_a_corner(land, P, Q) for P in points):
                    self.assertEqual(where(told, Q) == 1, any(seen))

    def test_a_comb_is_lit_from_its_teeth(self):
        land = land_of([COMB])
        some = lit(land, row_of((4, "1/2")))
        self.assertLess(area(some)[0] * area(land)[1], area(land)[0] * area(some)[1])
        self.assertEqual(lit(land, row_of((4, "1/2"), (2, 4), (4, 4), (6, 4), ("1/4", 3), ("31/4", 3), ("1/2", 1), ("15/2", 1))), land)

    def test_what_is_handed_in_stays_and_what_is_given_is_new(self):
        for land in lands()[:8]:
            points = eyes(land)[:2]
            kept = (list(land), list(points))
            for ask in (lambda: sight(land, points[0]), lambda: seen_from(land, points[0]), lambda: lit(land, points)):
                told = ask()
                wanted = list(told)
                told.append("more")
                self.assertEqual((land, points), kept)
                self.assertEqual(ask(), wanted)


if __name__ == "__main__":
    unittest.main()

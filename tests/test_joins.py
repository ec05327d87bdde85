import unittest

from acre.joins import common, either, join, less, marks
from acre.lands import area, is_land, land_of, where
from acre.ratios import minus, plus
from acre.sweep import pieces
from tests.samples import (RING_LISTS, SQUARE, as_stretches, drawn_ring_lists, plain_hands, plain_in, plain_is_land,
                           probes, reach, row_of)

WORDS = ((join, lambda one, other: one or other), (common, lambda one, other: one and other),
         (less, lambda one, other: one and not other), (either, lambda one, other: one != other))


def square(x, y, side):
    return [row_of((x, y), (x + side, y), (x + side, y + side), (x, y + side))]


PAIRS = [
    (square(0, 0, 4), square(2, 2, 4)), (square(0, 0, 4), square(9, 9, 4)), (square(0, 0, 9), square(2, 2, 4)),
    (square(2, 2, 4), square(0, 0, 9)), (square(0, 0, 4), square(4, 1, 2)), (square(0, 0, 4), square(4, 0, 4)),
    (square(0, 0, 4), square(4, 4, 4)), (square(0, 0, 4), square(0, 0, 2)), (square(0, 0, 4), square(0, 0, 4)),
    ([], square(0, 0, 4)), (square(0, 0, 4), []), ([], []), (square(0, 0, 4), square(1, 0, 2)),
    (RING_LISTS["a hole"], square(1, 1, 2)), (RING_LISTS["a hole"], square(2, 2, 4)),
    (RING_LISTS["a star"], RING_LISTS["two squares that overlap"]), (RING_LISTS["a bow"], square(0, 0, 4)),
    (RING_LISTS["far off"], RING_LISTS["a star"]), (RING_LISTS["four wedges at a point"], square(0, 0, 2)),
    (RING_LISTS["a chain of holes"], RING_LISTS["two holes that touch"]),
]


def pairs():
    drawn = drawn_ring_lists(21, 36)
    return PAIRS + list(zip(drawn[:18], drawn[18:]))


class Marks(unittest.TestCase):
    def test_two_that_overlap(self):
        one, other = land_of([row_of((0, 0), (4, 0), (4, 4))]), land_of([row_of((0, 0), (6, 0), (6, 6))])
        self.assertEqual(marks(one, other), [
            (reach((0, 0), (4, 0)), True, False, True, False), (reach((0, 0), (4, 4)), False, True, False, True),
            (reach((4, 0), (4, 4)), True, False, True, True), (reach((4, 0), (6, 0)), False, False, True, False),
            (reach((4, 4), (6, 6)), False, False, False, True), (reach((6, 0), (6, 6)), False, False, True, False)])

    def test_one_in_the_other(self):
        told = marks(land_of(square(0, 0, 9)), land_of(square(2, 2, 4)))
        inner = [row for row in told if row[0][0][0] in (2, 6) and row[0][0][1] in (2, 6)]
        self.assertEqual([row[1:] for row in inner],
                         [(True, True, False, True), (True, True, True, False), (True, True, False, True),
                          (True, True, True, False)])

    def test_nothing(self):
        self.assertEqual(marks([], []), [])
        land = land_of(square(0, 0, 4))
        self.assertEqual([row[3:] for row in marks(land, [])], [(False, False)] * 4)
        self.assertEqual([row[1:3] for row in marks([], land)], [(False, False)] * 4)

    def test_against_a_plain_look(self):
        for first, second in pairs():
            one, other = land_of(first), land_of(second)
            told = marks(one, other)
            sides, other_sides = as_stretches(one), as_stretches(other)
            cut = pieces(sides + other_sides)
            self.assertEqual([row[0] for row in told], [S for S, owners in cut])
            own = [S for S, owners in cut if any(owner < len(one) for owner in owners)]
            other_own = [S for S, owners in cut if any(owner >= len(one) for owner in owners)]
            for row in told:
                self.assertIs(type(row), tuple)
                self.assertTrue(all(type(truth) is bool for truth in row[1:]))
                if len(told) < 40:
                    self.assertEqual(row[1:], plain_hands(row[0], own) + plain_hands(row[0], other_own))


class Made(unittest.TestCase):
    def test_by_hand(self):
        one, other = land_of(square(0, 0, 4)), land_of(square(2, 2, 4))
        self.assertEqual(join(one, other), land_of([row_of((0, 0), (4, 0), (4, 2), (6, 2), (6, 6), (2, 6), (2, 4), (0, 4))]))
        self.assertEqual(common(one, other), land_of(square(2, 2, 2)))
        self.assertEqual(less(one, other), land_of([row_of((0, 0), (4, 0), (4, 2), (2, 2), (2, 4), (0, 4))]))
        self.assertEqual(less(other, one), land_of([row_of((4, 2), (6, 2), (6, 6), (2, 6), (2, 4), (4, 4))]))
        self.assertEqual(either(one, other), land_of(square(0, 0, 4) + square(2, 2, 4)))

    def test_side_by_side(self):
        one, other = land_of(square(0, 0, 4)), land_of(square(4, 0, 4))
        self.assertEqual(join(one, other), land_of([row_of((0, 0), (8, 0), (8, 4), (0, 4))]))
        self.assertEqual(common(one, other), [])
        self.assertEqual(less(one, other), one)
        self.assertEqual(either(one, other), join(one, other))

    def test_with_itself_and_with_nothing(self):
        for rings in list(RING_LISTS.values()):
            land = land_of(rings)
            self.assertEqual([word(land, land) for word, rule in WORDS], [land, land, [], []])
            self.assertEqual([word(land, []) for word, rule in WORDS], [land, [], land, land])
            self.assertEqual([word([], land) for word, rule in WORDS], [land, [], [], land])

    def test_a_hole_is_filled(self):
        land = land_of(RING_LISTS["a hole"])
        self.assertEqual(join(land, land_of(square(1, 1, 2))), land_of([SQUARE]))
        self.assertEqual(less(land_of([SQUARE]), land_of(square(1, 1, 2))), land)

    def test_each_is_a_land_with_its_points(self):
        for number, (first, second) in enumerate(pairs()):
            one, other = land_of(first), land_of(second)
            for word, rule in WORDS:
                with self.subTest(number=number, word=word.__name__):
                    told = word(one, other)
                    self.assertIs(is_land(told), True)
                    if len(told) < 40:
                        self.assertIs(plain_is_land(told), True)
                    for P in probes(number, 20):
                        truths = (plain_in(first, P), plain_in(second, P))
                        if None not in truths:
                            self.assertEqual(where(told, P), 1 if rule(*truths) else -1)

    def test_areas(self):
        for first, second in pairs():
            one, other = land_of(first), land_of(second)
            both = plus(area(one), area(other))
            self.assertEqual(plus(area(join(one, other)), area(common(one, other))), both)
            self.assertEqual(area(less(one, other)), minus(area(one), area(common(one, other))))

    def test_the_same_in_whatever_way(self):
        for first, second in pairs():
            one, other = land_of(first), land_of(second)
            self.assertEqual(either(one, other), land_of(first + second))
            self.assertEqual(join(one, other), join(other, one))
            self.assertEqual(join(less(one, other), other), join(one, other))
            self.assertEqual(less(one, less(one, other)), common(one, other))
            self.assertEqual(join(less(one, other), common(one, other)), one)
            self.assertEqual(either(either(one, other), other), one)

    def test_what_is_handed_in_stays_and_what_is_given_is_new(self):
        for first, second in PAIRS:
            one, other = land_of(first), land_of(second)
            kept = (list(one), list(other))
            for word in (marks, join, common, less, either):
                told = word(one, other)
                wanted = list(told)
                told.append("more")
                self.assertEqual((one, other), kept)
                self.assertEqual(word(one, other), wanted)


if __name__ == "__main__":
    unittest.main()

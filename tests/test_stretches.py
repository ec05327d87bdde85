import itertools
import random
import unittest

from acre import errors
from acre.stretches import lies_on, meet, stretch
from tests.samples import SIXTY, THREE_HUNDRED, at, drawn_stretches, nets, place, plain_on, plain_spot, reach, row_of

OTHER_REFUSALS = (errors.NoNumber, errors.NoPoint, errors.NoName, errors.NoText, errors.NoRow)


class Stretch(unittest.TestCase):
    def test_both_orders(self):
        for P, Q in [row_of((0, 0), (1, 0)), row_of((0, 5), (1, -5)), row_of((1, 0), (1, 2)),
                     row_of(("1/3", 9), ("1/2", 0)), row_of((-SIXTY, 1), (SIXTY, 0))]:
            with self.subTest(P=P, Q=Q):
                self.assertEqual(stretch(P, Q), (P, Q))
                self.assertEqual(stretch(Q, P), (P, Q))
                self.assertIs(type(stretch(Q, P)), tuple)

    def test_a_point_and_itself_is_refused(self):
        for P in row_of((0, 0), (3, 4), ("1/2", "2/3"), (SIXTY, -SIXTY), (THREE_HUNDRED, 0)):
            with self.subTest(P=P), self.assertRaises(errors.NoStretch) as taken:
                stretch(P, tuple(P))
            self.assertNotIsInstance(taken.exception, OTHER_REFUSALS)


class LiesOn(unittest.TestCase):
    def test_slanting(self):
        S = reach((0, 0), (4, 2))
        for P in row_of((0, 0), (4, 2), (2, 1), (1, "1/2"), ("1/3", "1/6")):
            self.assertIs(lies_on(P, S), True, P)
        for P in row_of((-2, -1), (6, 3), (2, 2), (2, 0), (0, 1), (4, 1), (5, 2), ("1/3", "1/7")):
            self.assertIs(lies_on(P, S), False, P)

    def test_upright_and_level(self):
        upright, level = reach((1, 0), (1, 3)), reach((0, 2), (5, 2))
        self.assertEqual([lies_on(at(1, y), upright) for y in (-1, 0, 2, 3, 4)], [False, True, True, True, False])
        self.assertEqual([lies_on(at(x, 2), level) for x in (-1, 0, 2, 5, 6)], [False, True, True, True, False])
        self.assertIs(lies_on(at("1/2", 1), upright), False)
        self.assertIs(lies_on(at(2, "3/2"), level), False)

    def test_ever_so_little(self):
        S = reach((0, 0), (THREE_HUNDRED, THREE_HUNDRED))
        self.assertIs(lies_on(at(THREE_HUNDRED - 1, THREE_HUNDRED - 1), S), True)
        self.assertIs(lies_on(at(THREE_HUNDRED - 1, THREE_HUNDRED), S), False)
        self.assertIs(lies_on(at(THREE_HUNDRED + 1, THREE_HUNDRED + 1), S), False)


class Meet(unittest.TestCase):
    def told(self, one, other, wanted):
        with self.subTest(one=one, other=other):
            self.assertEqual(meet(one, other), wanted)
            self.assertEqual(meet(other, one), wanted)

    def test_nothing(self):
        for one, other in [
            (reach((0, 0), (1, 0)), reach((0, 1), (1, 1))), (reach((0, 0), (1, 0)), reach((2, 0), (3, 0))),
            (reach((0, 0), (1, 1)), reach((2, 0), (3, -5))), (reach((0, 0), (0, 1)), reach((0, 2), (0, 3))),
            (reach((0, 0), (0, 1)), reach((1, 0), (1, 1))), (reach((0, 0), (4, 0)), reach((2, 1), (2, 3))),
            (reach((0, 0), (4, 4)), reach((3, 2), (5, 0))), (reach((0, 0), (2, 2)), reach((3, 3), (4, 4))),
        ]:
            self.told(one, other, None)

    def test_spot_within_both(self):
        self.told(reach((0, 0), (2, 2)), reach((0, 2), (2, 0)), ("spot", (1, 1, 1)))
        self.told(reach((0, 0), (1, 1)), reach((0, 1), (1, 0)), ("spot", (1, 1, 2)))
        self.told(reach((1, -1), (1, 5)), reach((0, 0), (3, 1)), ("spot", (3, 1, 3)))

    def test_spot_at_an_end_of_one(self):
        self.told(reach((0, 0), (4, 0)), reach((2, 0), (2, 3)), ("spot", (2, 0, 1)))
        self.told(reach((0, 0), (4, 0)), reach((2, -3), (2, 0)), ("spot", (2, 0, 1)))
        self.told(reach((0, 0), (4, 2)), reach((2, 1), (9, 9)), ("spot", (2, 1, 1)))
        self.told(reach((1, 0), (1, 3)), reach((1, 1), (9, 9)), ("spot", (1, 1, 1)))

    def test_spot_at_an_end_of_both(self):
        self.told(reach((0, 0), (4, 0)), reach((0, 0), (2, 3)), ("spot", (0, 0, 1)))
        self.told(reach((0, 0), (4, 0)), reach((4, 0), (5, 3)), ("spot", (4, 0, 1)))
        self.told(reach((0, 0), (4, 0)), reach((4, 0), (5, 0)), ("spot", (4, 0, 1)))
        self.told(reach((0, 0), (0, 4)), reach((0, 4), (0, 5)), ("spot", (0, 4, 1)))
        self.told(reach((0, 0), (2, 1)), reach((2, 1), (4, 2)), ("spot", (2, 1, 1)))
        self.told(reach((0, 0), (2, 1)), reach((1, 5), (2, 1)), ("spot", (2, 1, 1)))

    def test_part(self):
        for turned in (False, True):
            def row(a, b):
                return reach((0, a), (0, b)) if turned else reach((a, 2 * a), (b, 2 * b))
            self.told(row(0, 3), row(1, 5), ("part", row(1, 3)))
            self.told(row(0, 5), row(1, 3), ("part", row(1, 3)))
            self.told(row(0, 5), row(0, 5), ("part", row(0, 5)))
            self.told(row(0, 5), row(0, 3), ("part", row(0, 3)))
            self.told(row(0, 5), row(3, 5), ("part", row(3, 5)))
            self.told(row(-1, SIXTY), row(0, SIXTY + 1), ("part", row(0, SIXTY)))

    def test_all_pairs(self):
        draw = random.Random(11)
        some = drawn_stretches(draw, 40, 2) + drawn_stretches(draw, 10, 5, 4) + drawn_stretches(draw, 6, SIXTY, SIXTY)
        some += nets()[7]
        for one, other in itertools.product(some, repeat=2):
            ends = sorted({P for P in one + other if plain_on(P, one) and plain_on(P, other)}, key=place)
            wanted = ("part", tuple(ends)) if len(ends) == 2 else plain_spot(one, other)
            if len(ends) != 2 and wanted is not None:
                wanted = ("spot", wanted)
            self.assertEqual(meet(one, other), wanted, (one, other))


if __name__ == "__main__":
    unittest.main()

import copy
import fractions
import itertools
import random
import unittest

from acre import errors
from acre.lands import land_of, where
from acre.maps import Map
from acre.sweep import pieces
from tests.samples import SQUARE, as_stretches, at, place, probes, row_of
from tests.test_slabs import map_lists

OTHER_REFUSALS = (errors.NoNumber, errors.NoPoint, errors.NoStretch, errors.NoText, errors.NoRow)


def asked(pairs):
    """Points of all kinds: corners, stops, middles of pieces, straight above and below these, left and right of all."""
    spots = {P for S, owners in pieces([S for name, land in pairs for S in as_stretches(land)]) for P in S}
    for S, owners in pieces([S for name, land in pairs for S in as_stretches(land)]):
        (a, b), (c, d) = place(S[0]), place(S[1])
        spots.add(at((a + c) / 2, (b + d) / 2))
        spots.add(at((2 * a + c) / 3, (2 * b + d) / 3))
    spots = sorted(spots, key=place)
    draw = random.Random(81)
    spots = draw.sample(spots, min(len(spots), 60))
    for P in list(spots)[:25]:
        x, y = place(P)
        spots.extend(at(x, y + step) for step in (-9, fractions.Fraction(-1, 7), fractions.Fraction(1, 7), 2, 9))
        spots.extend(at(x + step, y) for step in (fractions.Fraction(-1, 9), fractions.Fraction(1, 9)))
    return spots + probes(82) + row_of((-99, 0), (99, 0), (0, 0), (2, 2))


def plain_found(pairs, P):
    told = {name: where(land, P) for name, land in pairs}
    return (sorted(name for name in told if told[name] == 1), sorted(name for name in told if told[name] == 0))


class Names(unittest.TestCase):
    def test_a_name_told_twice_is_refused(self):
        square = land_of([SQUARE])
        for pairs in ([("a", square), ("a", square)], [("a", []), ("b", square), ("a", [])], [("", []), ("", square)],
                      [("x", []), ("y", []), ("z", []), ("y", [])]):
            with self.subTest(pairs=pairs), self.assertRaises(errors.NoName) as taken:
                Map(pairs)
            self.assertIsInstance(taken.exception, errors.AcreError)
            self.assertNotIsInstance(taken.exception, OTHER_REFUSALS)

    def test_what_is_no_text_is_refused(self):
        for name in (None, 1, True, ("a",)):
            with self.assertRaises(errors.NoName):
                Map([(name, [])])

    def test_any_text_is_a_name(self):
        square = land_of([SQUARE])
        self.assertEqual(Map([("", square), ("A b", square), ("a", square)]).found(at(1, 1)), (["", "A b", "a"], []))


class Found(unittest.TestCase):
    def test_no_pairs(self):
        for pairs in ([], [("a", [])]):
            self.assertEqual(Map(pairs).found(at(0, 0)), ([], []))

    def test_by_hand(self):
        pairs = [("b", land_of([SQUARE])), ("a", land_of([row_of((2, 2), (6, 2), (6, 6), (2, 6))])),
                 ("c", land_of([row_of((4, 0), (9, 0), (9, 4), (4, 4))]))]
        told = {at(1, 1): (["b"], []), at(3, 3): (["a", "b"], []), at(4, 3): (["a"], ["b", "c"]), at(4, 4): (["a"], ["b", "c"]),
                at(2, 2): (["b"], ["a"]), at(0, 0): ([], ["b"]), at(5, 3): (["a", "c"], []), at(9, 9): ([], []),
                at(6, 3): (["c"], ["a"]), at(4, 1): ([], ["b", "c"]), at(4, 5): (["a"], []), at(2, 1): (["b"], []),
                at(9, 2): ([], ["c"]), at(9, 5): ([], []), at(-1, 1): ([], []), at(10, 1): ([], []),
                at(5, 4): (["a"], ["c"]), at(4, 2): ([], ["a", "b", "c"]), at(4, -1): ([], []), at(0, 5): ([], [])}
        one = Map(pairs)
        self.assertEqual({P: one.found(P) for P in told}, told)

    def test_against_a_look_at_each_land(self):
        for number, pairs in enumerate(map_lists()):
            one = Map(pairs)
            for P in asked(pairs):
                with self.subTest(number=number, P=P):
                    told = one.found(P)
                    self.assertEqual(told, plain_found(pairs, P))
                    self.assertEqual([type(told), type(told[0]), type(told[1])], [tuple, list, list])

    def test_whatever_order_the_pairs_have(self):
        pairs = map_lists()[5]
        for turned in itertools.permutations(pairs):
            one = Map(list(turned))
            for P in asked(pairs)[:40]:
                self.assertEqual(one.found(P), plain_found(pairs, P))

    def test_what_is_done_behind_changes_nothing(self):
        for pairs in map_lists()[3:10]:
            kept = copy.deepcopy(pairs)
            one = Map(pairs)
            self.assertEqual(pairs, kept)
            wanted = {P: plain_found(pairs, P) for P in asked(pairs)}
            for name, land in pairs:
                land.clear()
            pairs.clear()
            for P in wanted:
                for names in one.found(P):
                    names.append("more")
                    names.reverse()
            self.assertEqual({P: one.found(P) for P in wanted}, wanted)


if __name__ == "__main__":
    unittest.main()

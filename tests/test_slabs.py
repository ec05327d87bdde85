import copy
import unittest

from acre.lands import land_of
from acre.slabs import slabs
from tests.samples import (RING_LISTS, SQUARE, as_stretches, at, drawn_ring_lists, place, plain_above, plain_height,
                           plain_on, plain_stops, reach, row_of)


def map_lists():
    """Lists of pairs (name, land)."""
    square, other = land_of([SQUARE]), land_of([row_of((2, 2), (6, 2), (6, 6), (2, 6))])
    tilted = land_of([row_of((2, -1), (5, 2), (2, 5), (-1, 2))])
    told = [[], [("a", [])], [("b", []), ("a", [])], [("a", square)], [("a", square), ("b", other)],
            [("b", square), ("a", other), ("c", tilted)], [("two", square), ("one", square)],
            [("x", square), ("y", land_of([row_of((4, 1), (7, 1), (7, 3), (4, 3))]))],
            [("x", square), ("y", land_of([row_of((4, 0), (7, 0), (7, 4), (4, 4))])), ("", tilted)],
            [("p", land_of([row_of((0, 0), (8, 4), (0, 4))])), ("q", land_of([row_of((2, 1), (6, 3), (6, -1))]))]]
    told.extend([("whole", land_of(rings))] for rings in RING_LISTS.values())
    drawn = drawn_ring_lists(71, 42)
    told.extend([(name, land_of(rings)) for name, rings in zip("cab", drawn[number:number + 3])]
                for number in range(0, 42, 3))
    return told


def plain_slabs(pairs):
    fences = {name: as_stretches(land) for name, land in pairs}
    every = [S for own in fences.values() for S in own]
    spots = [stop[0] for stop in plain_stops(every)]
    places = sorted({place(P)[0] for P in spots})
    layers = [plain_layer(fences, left, right) for left, right in zip(places, places[1:])]
    uprights = [plain_uprights(fences, x, [P for P in spots if place(P)[0] == x]) for x in places]
    return ([(x.numerator, x.denominator) for x in places], layers, uprights)


def plain_layer(fences, left, right):
    found = {}
    for name, own in fences.items():
        for S in own:
            if place(S[0])[0] <= left and right <= place(S[1])[0]:
                part = (at(left, plain_height(S, left)), at(right, plain_height(S, right)))
                found.setdefault(part, []).append(name)
    told = []
    for part in sorted(found, key=lambda part: place(part[0])[1] + place(part[1])[1]):
        (a, b), (c, d) = place(part[0]), place(part[1])
        middle = at((a + c) / 2, (b + d) / 2)
        over = [name for name, own in fences.items() if plain_above(own, middle) % 2 == 1]
        told.append((part, sorted(over), sorted(found[part])))
    return told


def plain_uprights(fences, x, spots):
    told = []
    for part in zip(spots, spots[1:]):
        own = [name for name, some in fences.items() if any(plain_on(part[0], S) and plain_on(part[1], S) for S in some)]
        if own:
            told.append((part, sorted(own)))
    return told


class Slabs(unittest.TestCase):
    def test_nothing(self):
        for pairs in ([], [("a", [])], [("a", []), ("b", [])]):
            self.assertEqual(slabs(pairs), ([], [], []))

    def test_a_square(self):
        self.assertEqual(slabs([("a", land_of([SQUARE]))]), (
            [(0, 1), (4, 1)],
            [[(reach((0, 0), (4, 0)), ["a"], ["a"]), (reach((0, 4), (4, 4)), [], ["a"])]],
            [[(reach((0, 0), (0, 4)), ["a"])], [(reach((4, 0), (4, 4)), ["a"])]]))

    def test_two_that_share_an_upright(self):
        pairs = [("y", land_of([SQUARE])), ("x", land_of([row_of((4, 1), (7, 1), (7, 3), (4, 3))]))]
        told = slabs(pairs)
        self.assertEqual(told[2][1], [(reach((4, 0), (4, 1)), ["y"]), (reach((4, 1), (4, 3)), ["x", "y"]),
                                      (reach((4, 3), (4, 4)), ["y"])])

    def test_a_fence_shared_in_part(self):
        pairs = [("b", land_of([row_of((0, 0), (4, 0), (4, 4))])), ("a", land_of([row_of((2, 0), (6, 0), (6, -2))]))]
        places, layers, uprights = slabs(pairs)
        self.assertEqual(places, [(0, 1), (2, 1), (4, 1), (6, 1)])
        self.assertIn((reach((2, 0), (4, 0)), ["b"], ["a", "b"]), layers[1])
        self.assertIn((reach((0, 0), (2, 0)), ["b"], ["b"]), layers[0])
        self.assertIn((reach((4, 0), (6, 0)), [], ["a"]), layers[2])

    def test_fences_that_cross_between_two_ends(self):
        pairs = [("a", land_of([row_of((0, 0), (6, 4), (0, 4))])), ("b", land_of([row_of((0, 1), (6, 1), (6, 2), (0, 2))]))]
        places, layers, uprights = slabs(pairs)
        self.assertEqual(places, [(0, 1), (3, 2), (3, 1), (6, 1)])
        self.assertEqual([[own for S, over, own in layer] for layer in layers], [
            [["a"], ["b"], ["b"], ["a"]], [["b"], ["a"], ["b"], ["a"]], [["b"], ["b"], ["a"], ["a"]]])
        self.assertEqual([over for S, over, own in layers[1]], [["b"], ["a", "b"], ["a"], []])

    def test_against_a_plain_look(self):
        for number, pairs in enumerate(map_lists()):
            with self.subTest(number=number):
                self.assertEqual(slabs(pairs), plain_slabs(pairs))

    def test_lengths_and_kinds(self):
        for pairs in map_lists():
            told = slabs(pairs)
            self.assertIs(type(told), tuple)
            places, layers, uprights = told
            self.assertEqual((len(layers), len(uprights)), (max(len(places) - 1, 0), len(places)))
            for layer in layers:
                self.assertTrue(all(type(row) is tuple and type(row[1]) is type(row[2]) is list for row in layer))
                self.assertGreaterEqual(len(layer), 0)

    def test_what_is_handed_in_stays_and_the_lists_are_new(self):
        for pairs in map_lists():
            kept = copy.deepcopy(pairs)
            told = slabs(pairs)
            wanted = copy.deepcopy(told)
            self.assertEqual(pairs, kept)
            lists = list(told) + list(told[1]) + list(told[2])
            lists.extend(names for layer in told[1] for row in layer for names in row[1:])
            lists.extend(row[1] for upright in told[2] for row in upright)
            self.assertEqual(len({id(one) for one in lists}), len(lists))
            for one in lists:
                one.append("more")
            self.assertEqual(slabs(pairs), wanted)
            self.assertEqual(pairs, kept)


if __name__ == "__main__":
    unittest.main()

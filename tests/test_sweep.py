import copy
import itertools
import random
import unittest

from acre.stretches import meet
from acre.sweep import pieces, stops
from tests.samples import THREE_HUNDRED, at, drawn_stretches, nets, place, plain_on, plain_stops, reach


class Stops(unittest.TestCase):
    def test_none(self):
        self.assertEqual(stops([]), [])

    def test_one(self):
        S = reach((0, 0), (2, 3))
        self.assertEqual(stops([S]), [(S[0], [0], [], []), (S[1], [], [], [0])])

    def test_a_cross(self):
        one, other = reach((0, 0), (2, 2)), reach((0, 2), (2, 0))
        self.assertEqual(stops([one, other]), [
            (at(0, 0), [0], [], []), (at(0, 2), [1], [], []), (at(1, 1), [], [0, 1], []),
            (at(2, 0), [], [], [1]), (at(2, 2), [], [], [0])])

    def test_ends_within_and_overlaps(self):
        some = [reach((0, 0), (4, 0)), reach((2, 0), (6, 0)), reach((2, 0), (2, 5)), reach((0, 0), (4, 0))]
        self.assertEqual(stops(some), [
            (at(0, 0), [0, 3], [], []), (at(2, 0), [1, 2], [0, 3], []), (at(2, 5), [], [], [2]),
            (at(4, 0), [], [1], [0, 3]), (at(6, 0), [], [], [1])])

    def test_a_spot_of_two_lies_on_a_third_that_goes_along(self):
        some = [reach((0, 0), (4, 0)), reach((-1, 0), (5, 0)), reach((3, -1), (3, 1))]
        self.assertIn((at(3, 0), [], [0, 1, 2], []), stops(some))

    def test_many_through_one_point(self):
        some = [reach((-1, y), (1, -y)) for y in range(-30, 30)] + [reach((0, -1), (0, 1))]
        told = [stop for stop in stops(some) if stop[0] == at(0, 0)]
        self.assertEqual(told, [(at(0, 0), [], list(range(61)), [])])

    def test_against_a_plain_look(self):
        for number, some in enumerate(nets()):
            with self.subTest(number=number):
                self.assertEqual(stops(some), plain_stops(some))

    def test_kinds(self):
        for P, begins, through, ends in stops(nets()[2]):
            self.assertEqual([type(thing) for thing in (P, begins, through, ends)], [tuple, list, list, list])

    def test_three_hundred(self):
        level = [reach((-1, y), (150, y)) for y in range(150)]
        standing = [reach((x, -1), (x, 150)) for x in range(150)]
        told = stops(level + standing)
        self.assertEqual(len(told), 150 * 150 + 600)
        for P, begins, through, ends in told:
            if through:
                self.assertEqual(through, [P[1], 150 + P[0]])

    def test_three_hundred_figures(self):
        draw = random.Random(3)
        some = drawn_stretches(draw, 8, THREE_HUNDRED, THREE_HUNDRED)
        self.assertEqual(stops(some), plain_stops(some))


class Pieces(unittest.TestCase):
    def test_none_and_one(self):
        self.assertEqual(pieces([]), [])
        S = reach((0, 0), (2, 3))
        self.assertEqual(pieces([S]), [(S, [0])])
        self.assertEqual(pieces([S, S]), [(S, [0, 1])])

    def test_overlap(self):
        some = [reach((2, 0), (6, 0)), reach((0, 0), (4, 0)), reach((2, 0), (2, 5))]
        self.assertEqual(pieces(some), [
            (reach((0, 0), (2, 0)), [1]), (reach((2, 0), (2, 5)), [2]), (reach((2, 0), (4, 0)), [0, 1]),
            (reach((4, 0), (6, 0)), [0])])

    def test_against_a_plain_look(self):
        for number, some in enumerate(nets()):
            with self.subTest(number=number):
                spots = [stop[0] for stop in plain_stops(some)]
                wanted = {}
                for owner, S in enumerate(some):
                    on = [P for P in spots if plain_on(P, S)]
                    for pair in zip(on, on[1:]):
                        wanted.setdefault(pair, []).append(owner)
                told = pieces(some)
                self.assertEqual(told, sorted(wanted.items(), key=lambda one: (place(one[0][0]), place(one[0][1]))))
                self.assertTrue(all(type(one) is tuple and type(one[1]) is list for one in told))

    def test_nothing_in_common_but_an_end_of_both(self):
        for some in nets()[:40]:
            told = [S for S, owners in pieces(some)]
            for one, other in itertools.combinations(told, 2):
                shared = meet(one, other)
                if shared is not None:
                    self.assertEqual(shared[0], "spot")
                    self.assertIn(shared[1], one)
                    self.assertIn(shared[1], other)

    def test_end_to_end_along_each(self):
        for some in nets():
            told = pieces(some)
            for owner, S in enumerate(some):
                own = [T for T, owners in told if owner in owners]
                self.assertEqual((own[0][0], own[-1][1]), S)
                self.assertTrue(all(one[1] == other[0] for one, other in zip(own, own[1:])))


class Kept(unittest.TestCase):
    def test_the_list_handed_in_stays_and_lists_given_are_the_askers_own(self):
        for ask in (stops, pieces):
            for some in nets()[:20]:
                kept = copy.deepcopy(some)
                told = ask(some)
                wanted = copy.deepcopy(told)
                self.assertEqual(some, kept)
                ask(some)
                self.assertEqual(told, wanted)
                for one in told:
                    for thing in one:
                        if isinstance(thing, list):
                            thing.append(99)
                told.append("more")
                self.assertEqual(ask(some), wanted)
                self.assertEqual(some, kept)


if __name__ == "__main__":
    unittest.main()

import math
import unittest

from acre.wholes import divisor, is_whole
from tests.samples import NOT_WHOLE, SIXTY, SIXTY_TWO, THREE_HUNDRED, THREE_HUNDRED_TWO, WHOLES


class IsWhole(unittest.TestCase):
    def test_whole_numbers(self):
        for thing in WHOLES + [THREE_HUNDRED, -THREE_HUNDRED, THREE_HUNDRED_TWO]:
            with self.subTest(thing=thing):
                self.assertIs(is_whole(thing), True)

    def test_other_things(self):
        for thing in NOT_WHOLE:
            with self.subTest(thing=thing):
                self.assertIs(is_whole(thing), False)


class Divisor(unittest.TestCase):
    def tell(self, one, other, wanted):
        for pair in ((one, other), (other, one)):
            with self.subTest(pair=pair):
                told = divisor(*pair)
                self.assertIs(type(told), int)
                self.assertEqual(told, wanted)

    def test_ordinary(self):
        self.tell(12, 18, 6)
        self.tell(7, 5, 1)
        self.tell(4, 12, 4)
        self.tell(9, 9, 9)
        self.tell(1, 1000, 1)

    def test_below_nought(self):
        self.tell(-12, 18, 6)
        self.tell(12, -18, 6)
        self.tell(-12, -18, 6)
        self.tell(-5, -5, 5)
        self.tell(-1, -1, 1)

    def test_nought(self):
        self.tell(0, 0, 0)
        self.tell(0, 1, 1)
        self.tell(0, -1, 1)
        self.tell(0, 12, 12)
        self.tell(0, -12, 12)
        self.tell(0, -SIXTY, SIXTY)
        self.tell(0, -THREE_HUNDRED, THREE_HUNDRED)

    def test_all_pairs(self):
        for one in WHOLES:
            for other in WHOLES:
                self.tell(one, other, math.gcd(one, other))

    def test_sixty_figures(self):
        common = 10 ** 20 + 39
        self.tell(common * 3 ** 83, -common * 7 ** 47, common)
        self.tell(SIXTY, SIXTY_TWO, math.gcd(SIXTY, SIXTY_TWO))

    def test_three_hundred_figures(self):
        common = 10 ** 150 + 1
        for sign in (1, -1):
            self.tell(sign * common * 3 ** 310, common * 2 ** 495, common)
            self.tell(sign * THREE_HUNDRED, THREE_HUNDRED_TWO, math.gcd(THREE_HUNDRED, THREE_HUNDRED_TWO))

    def test_the_longest_way(self):
        # Neighbours of this row need the most steps of all numbers of their length.
        one, other = 1, 1
        while len(str(other)) < 300:
            one, other = other, one + other
        self.tell(one, other, 1)


if __name__ == "__main__":
    unittest.main()

import fractions
import math
import unittest

from acre import errors
from acre.ratios import fraction, half, minus, plus, times, total, under
from tests.samples import NOT_WHOLE, SIXTY, THREE_HUNDRED, THREE_HUNDRED_TWO, WHOLES, fraction_pairs

OTHER_REFUSALS = (errors.NoPoint, errors.NoStretch, errors.NoName, errors.NoText, errors.NoRow)


class Told(unittest.TestCase):
    def told_as(self, told, wanted):
        """Whether told is a fraction in lowest terms, and the wanted one."""
        self.assertIs(type(told), tuple)
        self.assertEqual([type(number) for number in told], [int, int])
        self.assertGreaterEqual(told[1], 1)
        self.assertEqual(math.gcd(*told), 1)
        self.assertEqual(told, (wanted.numerator, wanted.denominator))


class Fraction(Told):
    def test_ordinary(self):
        self.assertEqual(fraction(1, 2), (1, 2))
        self.assertEqual(fraction(6, 4), (3, 2))
        self.assertEqual(fraction(8, 4), (2, 1))
        self.assertEqual(fraction(-6, 4), (-3, 2))

    def test_bottom_below_nought(self):
        self.assertEqual(fraction(6, -4), (-3, 2))
        self.assertEqual(fraction(-6, -4), (3, 2))
        self.assertEqual(fraction(1, -1), (-1, 1))
        self.assertEqual(fraction(7, -3), (-7, 3))

    def test_top_nought(self):
        for bottom in (1, -1, 5, -5, SIXTY, -SIXTY, THREE_HUNDRED, -THREE_HUNDRED):
            with self.subTest(bottom=bottom):
                self.told_as(fraction(0, bottom), fractions.Fraction(0))

    def test_all_pairs(self):
        some = WHOLES + [THREE_HUNDRED, -THREE_HUNDRED, THREE_HUNDRED_TWO]
        for top in some:
            for bottom in some:
                if bottom != 0:
                    with self.subTest(top=top, bottom=bottom):
                        self.told_as(fraction(top, bottom), fractions.Fraction(top, bottom))


class Refused(unittest.TestCase):
    def refused(self, top, bottom):
        with self.subTest(top=top, bottom=bottom):
            with self.assertRaises(errors.NoNumber) as taken:
                fraction(top, bottom)
            self.assertIsInstance(taken.exception, errors.AcreError)
            self.assertIsInstance(taken.exception, ValueError)
            self.assertNotIsInstance(taken.exception, OTHER_REFUSALS)

    def test_bottom_nought(self):
        for top in WHOLES + [THREE_HUNDRED]:
            self.refused(top, 0)

    def test_no_whole_number(self):
        for thing in NOT_WHOLE:
            for number in (1, 0, -5, SIXTY):
                self.refused(thing, number)
                self.refused(number, thing)
            self.refused(thing, thing)

    def test_what_is_refused_stays_as_it_was(self):
        row, book = [1, 2], {"one": 1}
        self.refused(row, book)
        self.refused(book, row)
        self.assertEqual((row, book), ([1, 2], {"one": 1}))


class Reckoned(Told):
    def test_ordinary(self):
        self.assertEqual(plus((1, 2), (1, 3)), (5, 6))
        self.assertEqual(minus((1, 2), (1, 3)), (1, 6))
        self.assertEqual(minus((1, 3), (1, 2)), (-1, 6))
        self.assertEqual(times((2, 3), (-9, 4)), (-3, 2))
        self.assertEqual(half((1, 3)), (1, 6))
        self.assertEqual(half((4, 3)), (2, 3))
        self.assertEqual(half((-1, 1)), (-1, 2))

    def test_what_falls_away_leaves_nought_over_one(self):
        self.assertEqual(plus((5, 6), (-5, 6)), (0, 1))
        self.assertEqual(minus((5, 6), (5, 6)), (0, 1))
        self.assertEqual(times((0, 1), (5, 6)), (0, 1))
        self.assertEqual(half((0, 1)), (0, 1))

    def test_all_pairs(self):
        some = fraction_pairs()
        for one, first in some:
            for other, second in some:
                with self.subTest(one=one, other=other):
                    self.told_as(plus(one, other), first + second)
                    self.told_as(minus(one, other), first - second)
                    self.told_as(times(one, other), first * second)

    def test_all_halves(self):
        for one, first in fraction_pairs():
            with self.subTest(one=one):
                self.told_as(half(one), first / 2)

    def test_totals(self):
        some = fraction_pairs()
        for many in (0, 1, 2, 3, 4, 5, 7, 8, len(some)):
            with self.subTest(many=many):
                row = [one for one, first in some[:many]]
                kept = list(row)
                self.told_as(total(row), sum([first for one, first in some[:many]], fractions.Fraction(0)))
                self.assertEqual(row, kept)

    def test_three_hundred_figures(self):
        first = fractions.Fraction(-THREE_HUNDRED, THREE_HUNDRED_TWO - 1)
        second = fractions.Fraction(THREE_HUNDRED_TWO, THREE_HUNDRED + 1)
        one = (first.numerator, first.denominator)
        other = (second.numerator, second.denominator)
        self.told_as(plus(one, other), first + second)
        self.told_as(minus(one, other), first - second)
        self.told_as(times(one, other), first * second)
        self.told_as(half(one), first / 2)
        self.assertIs(under(one, other), True)
        self.assertIs(under(other, one), False)

    def test_asked_twice_tells_the_same(self):
        one, other = fraction(-7, 3), fraction(5, 6)
        for reckon in (plus, minus, times, under):
            with self.subTest(reckon=reckon.__name__):
                self.assertEqual(reckon(one, other), reckon(one, other))
        self.assertEqual((one, other), ((-7, 3), (5, 6)))


class Under(unittest.TestCase):
    def test_ordinary(self):
        self.assertIs(under((1, 3), (1, 2)), True)
        self.assertIs(under((1, 2), (1, 3)), False)
        self.assertIs(under((2, 3), (3, 4)), True)

    def test_equal(self):
        for one in ((0, 1), (1, 2), (-1, 2), (SIXTY, 7)):
            with self.subTest(one=one):
                self.assertIs(under(one, one), False)

    def test_below_nought(self):
        self.assertIs(under((-1, 2), (-1, 3)), True)
        self.assertIs(under((-1, 3), (-1, 2)), False)
        self.assertIs(under((-1, 3), (0, 1)), True)
        self.assertIs(under((0, 1), (-1, 3)), False)
        self.assertIs(under((-5, 1), (1, 9)), True)

    def test_ever_so_little(self):
        self.assertIs(under((SIXTY, SIXTY + 1), (SIXTY + 1, SIXTY + 2)), True)
        self.assertIs(under((SIXTY + 1, SIXTY + 2), (SIXTY, SIXTY + 1)), False)

    def test_all_pairs(self):
        some = fraction_pairs()
        for one, first in some:
            for other, second in some:
                with self.subTest(one=one, other=other):
                    self.assertIs(under(one, other), first < second)


if __name__ == "__main__":
    unittest.main()

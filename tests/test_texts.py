import unittest

from acre import errors
from acre.lands import land_of
from acre.texts import read, read_point, show_fraction, shown
from tests.samples import NOT_WHOLE, RING_LISTS, SQUARE, at, drawn_ring_lists, row_of

OTHER_REFUSALS = (errors.NoNumber, errors.NoPoint, errors.NoStretch, errors.NoName, errors.NoRow)
LONG = "1234567890" * 6

NUMBERS = {
    "0": "0", "1": "1", "-1": "-1", "7": "7", "10": "10", "-120": "-120", "1/2": "1/2", "-1/2": "-1/2", "3/2": "3/2",
    "-22/7": "-22/7", "10/3": "10/3", "1/10": "1/10", LONG: LONG, "-" + LONG: "-" + LONG, "1/" + LONG: "1/" + LONG,
    "7/" + "9" * 59 + "1": "7/" + "9" * 59 + "1", "9" * 60: "9" * 60, "1/2".replace("2", "1" + "0" * 59): "1/1" + "0" * 59,
}
NO_NUMBERS = [
    "", " ", "-", "+1", "--1", "-0", "00", "01", "-01", "007", "1.0", "1.", ".5", "1e3", "0x1", "1_000", "a", "1a", "a1",
    "2/4", "0/2", "0/1", "1/1", "3/1", "1/0", "0/0", "1/-2", "-1/-2", "1/+2", "1/02", "01/2", "-0/3", "1/", "/2", "/", "1//2",
    "1/2/3", "1/ 2", "1 /2", " 1", "1 ", "\t1", "1\n", "6/3", "-6/4", LONG + "1", "-" + LONG + "1", "1/" + LONG + "1",
    LONG + "1/2", "\u0661", "\uff11", "\u00b2", "1\u0662", "\u00bd", "- 1", "1-", "1/2-", "\u22121", "True", "None", "0" * 60,
]


class Point(unittest.TestCase):
    def test_numbers(self):
        for text, value in NUMBERS.items():
            for other, second in NUMBERS.items():
                self.assertEqual(read_point(text + "," + other), at(value, second))

    def test_what_is_no_number(self):
        for text in NO_NUMBERS:
            for row in (text + ",0", "0," + text, text + "," + text):
                self.refused(read_point, row)
                self.refused(read, row)
                self.refused(read, "0,0 " + row + " 1,1; 2,2")

    def test_no_point(self):
        for text in ("", "1", "1,", ",1", ",", "1,2,3", "1,,2", "1;2", "1, 2", "1 ,2", " 1,2", "1,2 ", "1,2 3,4", "1,2;",
                     "1,2; 3,4", "(1,2)", "1,2\n", "\n1,2"):
            self.refused(read_point, text)

    def test_no_text(self):
        for thing in NOT_WHOLE + [0, 1, [at(0, 0)], at(0, 0), ("0,0",), ["0,0"], b"0,0", {"0,0": 1}]:
            if not isinstance(thing, str):
                self.refused(read_point, thing)
                self.refused(read, thing)

    def refused(self, ask, thing):
        with self.subTest(ask=ask.__name__, thing=thing):
            with self.assertRaises(errors.NoText) as taken:
                ask(thing)
            self.assertIsInstance(taken.exception, errors.AcreError)
            self.assertNotIsInstance(taken.exception, OTHER_REFUSALS)


class Read(unittest.TestCase):
    def test_without_signs(self):
        self.assertEqual(read(""), [])

    def test_rings(self):
        self.assertEqual(read("0,0 4,0 4,3; 1,1 2,1 3/2,2"), [row_of((0, 0), (4, 0), (4, 3)), row_of((1, 1), (2, 1), ("3/2", 2))])
        self.assertEqual(read("0,0"), [row_of((0, 0))])
        self.assertEqual(read("0,0; 0,0; 1,1 -1/2,1/3"), [row_of((0, 0)), row_of((0, 0)), row_of((1, 1), ("-1/2", "1/3"))])

    def test_kinds(self):
        told = read("0,0 4,0; 1,1")
        self.assertEqual([type(told), type(told[0]), type(told[0][0])], [list, list, tuple])
        told[0].append("more")
        self.assertEqual(read("0,0 4,0; 1,1"), [row_of((0, 0), (4, 0)), row_of((1, 1))])

    def test_blanks(self):
        for text in (" ", "  ", " 0,0", "0,0 ", "0,0  1,1", "0,0;1,1", "0,0;  1,1", "0,0 ; 1,1", "0,0; ", "0,0;", "; 0,0",
                     ";", "; ", ";0,0", "0,0; ; 1,1", "0,0;; 1,1", "0,0; 1,1;", "0,0; 1,1; ", "0,0\t1,1", "0,0\n1,1",
                     "0,0;\n1,1", "0,0; 1,1\n", "0, 0", "0 ,0", "0,0,1,1", "0,0\u00a01,1", "\ufeff0,0"):
            with self.subTest(text=text), self.assertRaises(errors.NoText):
                read(text)

    def test_three_hundred_points(self):
        rings = [[at(x, x * x) for x in range(300)] for _ in range(2)]
        text = "; ".join(" ".join(f"{x},{x * x}" for x in range(300)) for _ in range(2))
        self.assertEqual(read(text), rings)


class Shown(unittest.TestCase):
    def test_by_hand(self):
        self.assertEqual(shown([]), "")
        self.assertEqual(shown(land_of([SQUARE])), "0,0 4,0 4,4 0,4")
        self.assertEqual(shown(land_of(RING_LISTS["a hole"])), "0,0 4,0 4,4 0,4; 1,1 1,3 3,3 3,1")
        self.assertEqual(shown(land_of(read("0,0 1/2,0 1/2,-1/3"))), "0,0 1/2,-1/3 1/2,0")

    def test_the_land_of_that_text_is_the_land_again(self):
        for rings in list(RING_LISTS.values()) + drawn_ring_lists(91, 40):
            land = land_of(rings)
            if all(len(str(abs(number))) <= 60 for P, Q in land for number in P + Q):
                self.assertEqual(land_of(read(shown(land))), land)

    def test_fractions(self):
        for one, text in [((0, 1), "0"), ((5, 1), "5"), ((-5, 1), "-5"), ((1, 2), "1/2"), ((-22, 7), "-22/7"),
                          ((int(LONG), 7), LONG + "/7"), ((10 ** 100, 1), "1" + "0" * 100)]:
            self.assertEqual(show_fraction(one), text)


if __name__ == "__main__":
    unittest.main()

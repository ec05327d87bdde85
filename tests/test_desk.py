import unittest

from acre import errors
from acre.desk import Desk
from acre.lands import land_of
from acre.texts import shown
from tests.samples import NOT_WHOLE, RING_LISTS

REFUSALS = (errors.NoNumber, errors.NoPoint, errors.NoStretch, errors.NoName, errors.NoText, errors.NoRow)


def furnished():
    desk = Desk()
    for row in ("land a 0,0 4,0 4,4 0,4", "land b 2,2 6,2 6,6 2,6", "land c ", "land hole 0,0 9,0 9,9 0,9; 1,1 2,1 2,2"):
        desk.say(row)
    return desk


class Rows(unittest.TestCase):
    def told(self, desk, *rows):
        for row, answer in rows:
            with self.subTest(row=row):
                said = desk.say(row)
                self.assertIs(type(said), str)
                self.assertEqual(said, answer)

    def test_land_and_show(self):
        self.told(Desk(), ("land a 0,0 4,0 4,4 0,4", "ok"), ("show a", "0,0 4,0 4,4 0,4"), ("land a ", "ok"), ("show a", ""),
                  ("land abcdefgh 4,4 0,4 0,0 4,0; 9,9", "ok"), ("show abcdefgh", "0,0 4,0 4,4 0,4"),
                  ("land z 1/2,0 1,0 1,1/3", "ok"), ("show z", "1/2,0 1,0 1,1/3"))

    def test_the_four_words(self):
        self.told(furnished(), ("join d a b", "ok"), ("show d", "0,0 4,0 4,2 6,2 6,6 2,6 2,4 0,4"),
                  ("common d a b", "ok"), ("show d", "2,2 4,2 4,4 2,4"), ("less d a b", "ok"),
                  ("show d", "0,0 4,0 4,2 2,2 2,4 0,4"), ("either d a b", "ok"), ("area d", "24"), ("less d b a", "ok"),
                  ("area d", "12"), ("join d a c", "ok"), ("same d a", "yes"), ("common d a c", "ok"), ("same d c", "yes"))

    def test_a_new_name_that_is_one_of_the_two(self):
        self.told(furnished(), ("join a a b", "ok"), ("area a", "28"), ("less b b b", "ok"), ("show b", ""))
        self.told(furnished(), ("common b a b", "ok"), ("area b", "4"), ("less a a b", "ok"), ("area a", "12"))
        self.told(furnished(), ("either a b a", "ok"), ("area a", "24"), ("area b", "16"), ("hull a a", "ok"), ("area a", "32"))

    def test_hull(self):
        self.told(furnished(), ("join d a b", "ok"), ("hull e d", "ok"), ("show e", "0,0 4,0 6,2 6,6 2,6 0,4"),
                  ("hull e c", "ok"), ("show e", ""), ("hull e hole", "ok"), ("area e", "81"))

    def test_drop(self):
        desk = furnished()
        self.told(desk, ("drop a", "ok"), ("find 1,1", "/ hole"))
        for row in ("show a", "drop a", "join d a b", "same b a"):
            with self.assertRaises(errors.NoName):
                desk.say(row)
        self.told(desk, ("land a 0,0 1,0 0,1", "ok"), ("area a", "1/2"), ("drop a", "ok"), ("drop b", "ok"))

    def test_area(self):
        self.told(furnished(), ("area a", "16"), ("area c", "0"), ("area hole", "161/2"))

    def test_where(self):
        self.told(furnished(), ("where a 1,1", "in"), ("where a 0,0", "on"), ("where a 4,1/2", "on"), ("where a -1,1", "out"),
                  ("where c 0,0", "out"), ("where hole 3/2,5/4", "out"), ("where hole 8,8", "in"))

    def test_same(self):
        self.told(furnished(), ("same a a", "yes"), ("same a b", "no"), ("same c c", "yes"), ("land d 4,0 0,0 0,4 4,4 4,1", "ok"),
                  ("same a d", "yes"), ("same d c", "no"))

    def test_rings(self):
        self.told(furnished(), ("rings a", "1 0"), ("rings c", "0 0"), ("rings hole", "1 1"),
                  ("land d 0,0 9,0 9,9 0,9; 1,1 8,1 8,8 1,8; 3,3 6,3 6,6 3,6", "ok"), ("rings d", "2 1"),
                  ("land d 0,0 4,4 4,0 0,4", "ok"), ("rings d", "2 0"), ("land d 0,0 4,0 4,4 0,4; 0,0 2,1 1,2", "ok"),
                  ("rings d", "1 1"))

    def test_triangles(self):
        self.told(furnished(), ("triangles a", "2"), ("triangles c", "0"), ("triangles hole", "7"))

    def test_find(self):
        self.told(furnished(), ("find 3,3", "a b hole /"), ("find 2,3", "a hole / b"), ("find -1,-1", "/"), ("find 0,0", "/ a hole"),
                  ("find 4,4", "b hole / a"), ("find 6,6", "hole / b"), ("find 1/2,7/2", "a hole /"))
        self.told(Desk(), ("find 0,0", "/"))

    def test_show_as_the_text_of_the_land(self):
        for rings in RING_LISTS.values():
            if all(rings):
                desk = Desk()
                text = "; ".join(" ".join(shown_point(P) for P in ring) for ring in rings)
                self.assertEqual(desk.say("land x " + text), "ok")
                self.assertEqual(desk.say("show x"), shown(land_of(rings)))


def shown_point(P):
    from fractions import Fraction
    return f"{Fraction(P[0], P[2])},{Fraction(P[1], P[2])}"


def state(desk):
    return [desk.say(f"show {name}") for name in ("a", "b", "c", "hole")] + [desk.say("find 3,3"), desk.say("find 0,0")]


class Refused(unittest.TestCase):
    def refused(self, error, *rows):
        desk = furnished()
        wanted = state(desk)
        for row in rows:
            with self.subTest(row=row):
                with self.assertRaises(error) as taken:
                    desk.say(row)
                self.assertIsInstance(taken.exception, errors.AcreError)
                self.assertEqual([one for one in REFUSALS if isinstance(taken.exception, one)], [error])
                self.assertEqual(state(desk), wanted)

    def test_no_row(self):
        self.refused(errors.NoRow, "", " ", "  ", "land", "land a", "land ", "Land a 0,0", "lands a 0,0", " land a 0,0",
                     "join", "join d", "join d a", "join d a b c", "join d a b ", "common d a", "less d a b b", "either d",
                     "either d a b  ", "hull d", "hull", "hull d a b", "hull d a ", "drop", "drop a b", "drop a ", "area",
                     "area a b", "area a ", "show", "show a ", "show a b", "where", "where a", "where a 0,0 ", "where a 0,0 1,1",
                     "where a  0,0", "same", "same a", "same a b c", "same a b ", "same a  b", "rings", "rings a b",
                     "rings a ", "triangles", "triangles a b", "find", "find 0,0 1,1", "find 0,0 ", "find a 0,0", "land\ta 0,0",
                     "area\na", "show a\n b", "AREA a", "a", "ok", "join  d a b", "seen a 0,0", "\n", "areaa")

    def test_no_text_is_no_row(self):
        self.refused(errors.NoRow, *[thing for thing in NOT_WHOLE if not isinstance(thing, str)], 1, 0, ["area", "a"],
                     ("area a",), b"area a")

    def test_no_name(self):
        self.refused(errors.NoName, "land A 0,0", "land a1 0,0", "land abcdefghi 0,0", "land  0,0", "land  ", "land a_b 0,0",
                     "land \u00e4 0,0", "land \u00df 0,0", "land a- 0,0", "land 1 0,0", "land ; 0,0", "land a; ", "land a\n 0,0",
                     "join D a b", "join d e b", "join d a e", "join d a B", "join  a b", "join d  b", "join d a ", "common d1 a b",
                     "less d a x", "either d x a", "hull D a", "hull d x", "hull  a", "hull d ", "drop x", "drop ", "drop A",
                     "area x", "area ", "area A", "show x", "show ", "show a,b", "where x 0,0", "where  0,0", "same a x", "same x a",
                     "same a ", "same  a", "rings x", "rings ", "triangles x", "triangles ", "rings a\n", "area \u0430")

    def test_no_text(self):
        self.refused(errors.NoText, "land a x", "land a  ", "land a 0,0 ", "land a  0,0", "land a 0,0  1,1", "land a 0,0;1,1",
                     "land d 2/4,0", "land d 0,0; ", "land d -0,0", "land d 0,0\n", "where a x", "where a ", "where a 0",
                     "where a 0,0;", "where a 2/4,0", "find x", "find ", "find 0", "find 0,0;", "find a", "find 01,0")

    def test_which_comes_first(self):
        self.refused(errors.NoName, "land A x", "land A  ", "where x y", "where A ", "where  ", "join D X Y", "hull D X")
        self.refused(errors.NoRow, "where A x y", "join D X", "area A B", "find x y", "land A", "foo A x")

    def test_two_desks_know_nothing_of_one_another(self):
        one, other = furnished(), Desk()
        with self.assertRaises(errors.NoName):
            other.say("area a")
        other.say("land a 0,0 1,0 0,1")
        self.assertEqual((one.say("area a"), other.say("area a")), ("16", "1/2"))


if __name__ == "__main__":
    unittest.main()

"""The promise over the whole: texts read, lands made of them by the four words, asked for points."""

import fractions
import random
import unittest

from acre.desk import Desk
from acre.joins import common, either, join, less
from acre.lands import area, is_land, land_of, where
from acre.points import point
from acre.ratios import plus
from acre.stretches import meet, stretch
from acre.texts import read, shown
from tests.samples import drawn_ring_lists, place, plain_in, probes

WORDS = {"join": lambda one, other: one or other, "common": lambda one, other: one and other,
         "less": lambda one, other: one and not other, "either": lambda one, other: one != other}
MADE = {"join": join, "common": common, "less": less, "either": either}


def text_of(rings):
    return "; ".join(" ".join(f"{place(P)[0]},{place(P)[1]}" for P in ring) for ring in rings)


def told_pairs():
    drawn = drawn_ring_lists(111, 56)
    draw = random.Random(112)
    long = [[[point(draw.randint(-10 ** 59, 10 ** 59), draw.randint(-10 ** 59, 10 ** 59), draw.randint(1, 10 ** 59))
              for _ in range(4)]] for _ in range(4)]
    return list(zip(drawn[:28], drawn[28:])) + list(zip(long[:2], long[2:]))


class Promise(unittest.TestCase):
    def test_each_point_lies_where_it_ought_to(self):
        for number, (first, second) in enumerate(told_pairs()):
            one, other = land_of(read(text_of(first))), land_of(read(text_of(second)))
            for word, rule in WORDS.items():
                land = MADE[word](one, other)
                for P in probes(number, 25):
                    truths = (plain_in(first, P), plain_in(second, P))
                    if None not in truths:
                        self.assertEqual(where(land, P), 1 if rule(*truths) else -1)

    def test_no_two_fences_have_more_in_common_than_an_end(self):
        for first, second in told_pairs():
            one, other = land_of(read(text_of(first))), land_of(read(text_of(second)))
            for word in WORDS:
                land = MADE[word](one, other)
                self.assertIs(is_land(land), True)
                sides = [stretch(P, Q) for P, Q in land][:30]
                for number, S in enumerate(sides):
                    for T in sides[:number]:
                        shared = meet(S, T)
                        self.assertTrue(shared is None or (shared[0] == "spot" and shared[1] in S and shared[1] in T))

    def test_the_areas(self):
        for first, second in told_pairs():
            one, other = land_of(read(text_of(first))), land_of(read(text_of(second)))
            self.assertEqual(plus(area(join(one, other)), area(common(one, other))), plus(area(one), area(other)))

    def test_equal_lists_in_whatever_way_each_was_made(self):
        for first, second in told_pairs():
            one, other = land_of(read(text_of(first))), land_of(read(text_of(second)))
            both = common(one, other)
            self.assertEqual(join(join(less(one, other), less(other, one)), both), join(one, other))
            self.assertEqual(either(one, other), less(join(one, other), both))
            self.assertEqual(either(one, other), land_of(first + second))
            self.assertEqual(less(one, both), less(one, other))
            self.assertEqual(common(join(one, other), one), one)

    def test_over_the_desk(self):
        for number, (first, second) in enumerate(told_pairs()):
            desk = Desk()
            desk.say("land one " + text_of(first))
            desk.say("land other " + text_of(second))
            for word, rule in WORDS.items():
                self.assertEqual(desk.say(f"{word} made one other"), "ok")
                for P in probes(number, 6):
                    truths = (plain_in(first, P), plain_in(second, P))
                    if None not in truths:
                        said = desk.say(f"where made {place(P)[0]},{place(P)[1]}")
                        self.assertEqual(said, "in" if rule(*truths) else "out")
            desk.say("join all one other")
            desk.say("common both one other")
            sums = [fractions.Fraction(desk.say(f"area {name}")) for name in ("one", "other", "all", "both")]
            self.assertEqual(sums[0] + sums[1], sums[2] + sums[3])

    def test_the_text_of_a_land_tells_it_again(self):
        for first, second in told_pairs()[:28]:
            land = join(land_of(first), land_of(second))
            self.assertEqual(land_of(read(shown(land))), land)


if __name__ == "__main__":
    unittest.main()

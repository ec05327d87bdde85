import unittest

from acre.rows import halved, numbers_of


class Halved(unittest.TestCase):
    def test_each_place_of_each_length(self):
        for many in range(20):
            for place in range(many + 1):
                self.assertEqual(halved(many, lambda k: k >= place), place)

    def test_few_are_asked(self):
        asked = []
        halved(1000, lambda k: asked.append(k) or k >= 700)
        self.assertLessEqual(len(asked), 10)
        self.assertTrue(all(0 <= k < 1000 for k in asked))


class NumbersOf(unittest.TestCase):
    def test_each_by_its_number(self):
        self.assertEqual(numbers_of([]), {})
        self.assertEqual(numbers_of(["b", (1, 2), "a"]), {"b": 0, (1, 2): 1, "a": 2})


if __name__ == "__main__":
    unittest.main()

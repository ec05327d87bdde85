import unittest

from acre import errors

REFUSALS = ["NoNumber", "NoPoint", "NoStretch", "NoName", "NoText", "NoRow"]


class Errors(unittest.TestCase):
    def test_any_refusal_is_a_value_error(self):
        self.assertTrue(issubclass(errors.AcreError, ValueError))

    def test_each_refusal_is_under_acre_error(self):
        for name in REFUSALS:
            with self.subTest(name=name):
                self.assertTrue(issubclass(getattr(errors, name), errors.AcreError))
                self.assertIsNot(getattr(errors, name), errors.AcreError)

    def test_none_is_under_another(self):
        for name in REFUSALS:
            for other in REFUSALS:
                if name != other:
                    with self.subTest(name=name, other=other):
                        self.assertFalse(issubclass(getattr(errors, name), getattr(errors, other)))

    def test_each_is_raised_and_taken(self):
        for name in REFUSALS + ["AcreError"]:
            with self.subTest(name=name), self.assertRaises(getattr(errors, name)):
                raise getattr(errors, name)("why")


if __name__ == "__main__":
    unittest.main()

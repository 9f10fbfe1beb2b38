import unittest

from calmring import errors

REFUSALS = ["BadNet", "BadRule", "BadState", "BadTurn", "BadText", "TooGreat", "NoMeasure"]


class ErrorsTest(unittest.TestCase):
    def test_calm_error_is_a_value_error(self):
        self.assertTrue(issubclass(errors.CalmError, ValueError))

    def test_each_refusal_stands_under_calm_error(self):
        for name in REFUSALS:
            with self.subTest(name=name):
                refusal = getattr(errors, name)
                self.assertTrue(issubclass(refusal, errors.CalmError))
                self.assertTrue(issubclass(refusal, ValueError))
                self.assertIsNot(refusal, errors.CalmError)

    def test_no_refusal_stands_under_another_one(self):
        for name in REFUSALS:
            for other in REFUSALS:
                if name != other:
                    with self.subTest(name=name, other=other):
                        self.assertFalse(issubclass(getattr(errors, name), getattr(errors, other)))

    def test_a_refusal_is_raised_and_taken_by_its_name(self):
        for name in REFUSALS:
            with self.subTest(name=name):
                with self.assertRaises(errors.CalmError) as taken:
                    raise getattr(errors, name)("words")
                self.assertIs(type(taken.exception), getattr(errors, name))


if __name__ == "__main__":
    unittest.main()

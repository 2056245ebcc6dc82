import unittest

from roundwords import errors
from roundwords.errors import ByNought, NoLine, NoRoot, NoText, RoundError, TooMany

REFUSALS = [ByNought, NoRoot, TooMany, NoText, NoLine]


class Errors(unittest.TestCase):
    def test_round_error_stands_straight_under_value_error(self):
        self.assertEqual(RoundError.__bases__, (ValueError,))

    def test_each_refusal_stands_straight_under_round_error(self):
        for refusal in REFUSALS:
            self.assertEqual(refusal.__bases__, (RoundError,), refusal)

    def test_none_stands_under_another(self):
        for one in REFUSALS:
            for other in REFUSALS:
                self.assertEqual(issubclass(one, other), one is other, (one, other))

    def test_each_bears_its_own_name(self):
        for refusal in REFUSALS:
            self.assertIs(getattr(errors, refusal.__name__), refusal)
        self.assertEqual([refusal.__name__ for refusal in REFUSALS],
                         ["ByNought", "NoRoot", "TooMany", "NoText", "NoLine"])

    def test_they_are_made_with_a_text(self):
        for refusal in REFUSALS + [RoundError]:
            self.assertEqual(str(refusal("why")), "why")
            with self.assertRaises(ValueError):
                raise refusal("why")


if __name__ == "__main__":
    unittest.main()

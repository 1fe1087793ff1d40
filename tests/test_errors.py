"""The interface, errors.py."""

import unittest

from sureroad.errors import NoCard, NoMessage, NoStrip, RoadError

REFUSALS = (NoMessage, NoCard, NoStrip)


class ErrorsTest(unittest.TestCase):
    def test_road_error_stands_under_value_error(self):
        self.assertEqual(RoadError.__bases__, (ValueError,))

    def test_each_refusal_stands_under_road_error(self):
        for refusal in REFUSALS:
            self.assertTrue(issubclass(refusal, RoadError))
            self.assertIsNot(refusal, RoadError)

    def test_no_refusal_stands_below_another(self):
        for one in REFUSALS:
            for other in REFUSALS:
                self.assertEqual(issubclass(one, other), one is other)

    def test_they_carry_words(self):
        for refusal in REFUSALS + (RoadError,):
            self.assertEqual(str(refusal("some words")), "some words")


if __name__ == "__main__":
    unittest.main()

"""Point 3.1."""

import unittest

from sureroad.numbers import index_near

LOWS = tuple(range(-60, 61)) + (-10 ** 20, 10 ** 20, 10 ** 20 + 5, 65535, 65536)


class IndexNearTest(unittest.TestCase):
    def test_by_hand(self):
        self.assertEqual(index_near(0, 0, 1), 0)
        self.assertEqual(index_near(1, 0, 1), 1)
        self.assertEqual(index_near(0, 1, 1), 2)
        self.assertEqual(index_near(1, 1, 1), 1)
        self.assertEqual(index_near(0, -1, 1), 0)
        self.assertEqual(index_near(1, -1, 1), -1)
        self.assertEqual(index_near(13, -7, 7), -1)
        self.assertEqual(index_near(7, -7, 7), -7)
        self.assertEqual(index_near(6, -7, 7), 6)
        self.assertEqual(index_near(3, 100, 5), 103)
        self.assertEqual(index_near(9, 100, 5), 109)
        self.assertEqual(index_near(0, 101, 5), 110)

    def test_every_window_and_every_number(self):
        for window in range(1, 8):
            for low in LOWS:
                for number in range(2 * window):
                    fitting = [index for index in range(low, low + 2 * window) if index % (2 * window) == number]
                    self.assertEqual([index_near(number, low, window)], fitting, (number, low, window))

    def test_the_kind_of_what_comes_back(self):
        for low in (-3, 0, 3):
            self.assertIs(type(index_near(1, low, 2)), int)

    def test_nothing_is_refused_beyond_the_bounds(self):
        for window in (8, 9, 20):
            for low in (-30, 0, 77):
                for number in range(2 * window):
                    index = index_near(number, low, window)
                    self.assertTrue(low <= index < low + 2 * window)
                    self.assertEqual(index % (2 * window), number)
        for number in (-1, 2, 13, 14):
            index_near(number, 0, 1)


if __name__ == "__main__":
    unittest.main()

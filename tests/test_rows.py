"""Rows of integers."""

import math
import unittest

from grainmeet.rows import common_of, dotted, moved
from samples import some_points


class Rows(unittest.TestCase):
    def test_dotted(self):
        self.assertEqual(dotted((1, 2, 3), (4, -5, 6)), 12)
        self.assertEqual(dotted((0, 0, 0), (4, -5, 6)), 0)

    def test_moved(self):
        row = (1, 2, 3)
        self.assertEqual(moved(row, (1, 0, -1), 5), (6, 2, -2))
        self.assertEqual(moved(row, (1, 0, -1), -1), (0, 2, 4))
        self.assertEqual(moved(row, (7, 7, 7), 0), row)
        self.assertIs(type(moved((1, 2, 3, 4), (1, 1, 1, 1), 1)), tuple)

    def test_common_of(self):
        for row in some_points(31, 200):
            self.assertEqual(common_of(row), math.gcd(*row))
        self.assertEqual([common_of((0, 0, 0)), common_of((-6, 0, 9, 12)), common_of((5,))], [0, 3, 5])


if __name__ == "__main__":
    unittest.main()

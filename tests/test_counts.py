"""How many ways there are to take some out of many, on which points 12 and 15 stand."""

import itertools
import math
import unittest

from argosy.counts import ways


class Ways(unittest.TestCase):
    def test_against_all_ways_one_by_one(self):
        for many in range(9):
            for taken in range(many + 1):
                self.assertEqual(ways(many, taken), len(list(itertools.combinations(range(many), taken))))

    def test_many(self):
        for many in range(100):
            for taken in range(many + 1):
                self.assertEqual(ways(many, taken), math.comb(many, taken))

    def test_where_so_many_are_not_there(self):
        for many, taken in ((0, 1), (0, -1), (5, 6), (5, -1), (5, 100), (-1, 0), (-1, -1)):
            self.assertEqual(ways(many, taken), 0)


if __name__ == "__main__":
    unittest.main()

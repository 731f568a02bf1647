"""Points 1, 2 and 5 and the interface's section argosy/parts.py."""

import itertools
import math
import unittest
from fractions import Fraction

from argosy.parts import less, lowest, minus, plus

BIG = 10 ** 30 - 1
TOPS = (-BIG, -12, -7, -1, 0, 1, 4, 6, BIG - 1, BIG)
BOTTOMS = (1, 2, 6, 9, BIG - 1, BIG)
PARTS = [(top, bottom) for top in TOPS for bottom in BOTTOMS]
SMALL_PARTS = [(top, bottom) for top in range(-5, 6) for bottom in range(1, 7)]


class Told(unittest.TestCase):
    """What is told is compared by value and by kind: True == 1 would hide a bool."""

    def assert_part(self, told, wished):
        self.assertIs(type(told), tuple)
        self.assertEqual(told, wished)
        top, bottom = told
        self.assertIs(type(top), int)
        self.assertIs(type(bottom), int)
        self.assertGreater(bottom, 0)
        self.assertEqual(math.gcd(top, bottom), 1)

    def assert_fraction(self, told, wished):
        self.assert_part(told, (wished.numerator, wished.denominator))


class Lowest(Told):
    def test_top_above_nought(self):
        self.assert_part(lowest(6, 4), (3, 2))
        self.assert_part(lowest(4, 6), (2, 3))
        self.assert_part(lowest(12, 4), (3, 1))
        self.assert_part(lowest(5, 5), (1, 1))

    def test_lowest_already(self):
        self.assert_part(lowest(7, 3), (7, 3))
        self.assert_part(lowest(3, 7), (3, 7))
        self.assert_part(lowest(1, 1), (1, 1))

    def test_top_below_nought(self):
        self.assert_part(lowest(-6, 4), (-3, 2))
        self.assert_part(lowest(-4, 6), (-2, 3))
        self.assert_part(lowest(-5, 5), (-1, 1))
        self.assert_part(lowest(-7, 3), (-7, 3))

    def test_nought(self):
        for bottom in (1, 2, 9, BIG):
            self.assert_part(lowest(0, bottom), (0, 1))

    def test_thirty_figures(self):
        self.assert_part(lowest(BIG, BIG), (1, 1))
        self.assert_part(lowest(-BIG, BIG), (-1, 1))
        self.assert_part(lowest(BIG, BIG - 1), (BIG, BIG - 1))
        self.assert_part(lowest(BIG - 1, BIG), (BIG - 1, BIG))
        self.assert_part(lowest(BIG, 9), (BIG // 9, 1))
        self.assert_part(lowest(-9, BIG), (-1, BIG // 9))

    def test_neighbouring_fibonacci_numbers_have_nothing_in_common(self):
        one, other = 1, 1
        while one + other <= BIG:
            one, other = one + other, one
        self.assert_part(lowest(one, other), (one, other))
        self.assert_part(lowest(other, one), (other, one))
        self.assert_part(lowest(-one, other), (-one, other))

    def test_all_small_parts_and_edges(self):
        for top, bottom in SMALL_PARTS + PARTS:
            self.assert_fraction(lowest(top, bottom), Fraction(top, bottom))


class PlusAndMinus(Told):
    def test_sums(self):
        self.assert_part(plus((1, 2), (1, 3)), (5, 6))
        self.assert_part(plus((1, 6), (1, 3)), (1, 2))
        self.assert_part(plus((1, 2), (1, 2)), (1, 1))
        self.assert_part(plus((3, 1), (4, 1)), (7, 1))

    def test_differences(self):
        self.assert_part(minus((1, 2), (1, 3)), (1, 6))
        self.assert_part(minus((5, 6), (1, 3)), (1, 2))
        self.assert_part(minus((7, 1), (3, 1)), (4, 1))

    def test_the_second_is_taken_from_the_first(self):
        self.assert_part(minus((1, 3), (1, 2)), (-1, 6))
        self.assert_part(minus((0, 1), (2, 3)), (-2, 3))
        self.assert_part(minus((2, 3), (0, 1)), (2, 3))

    def test_tops_below_nought(self):
        self.assert_part(plus((-1, 2), (-1, 3)), (-5, 6))
        self.assert_part(plus((1, 2), (-2, 3)), (-1, 6))
        self.assert_part(minus((-1, 2), (-1, 3)), (-1, 6))
        self.assert_part(minus((-1, 2), (1, 2)), (-1, 1))
        self.assert_part(minus((1, 2), (-1, 2)), (1, 1))

    def test_come_to_nought(self):
        self.assert_part(plus((3, 4), (-3, 4)), (0, 1))
        self.assert_part(plus((6, 8), (-3, 4)), (0, 1))
        self.assert_part(minus((3, 4), (3, 4)), (0, 1))
        self.assert_part(minus((3, 4), (9, 12)), (0, 1))
        self.assert_part(minus((-BIG, BIG - 1), (-BIG, BIG - 1)), (0, 1))

    def test_nought_by_any_bottom(self):
        self.assert_part(plus((0, 1), (0, 1)), (0, 1))
        self.assert_part(plus((0, 5), (0, 3)), (0, 1))
        self.assert_part(minus((0, 5), (0, 3)), (0, 1))
        self.assert_part(plus((0, 7), (4, 6)), (2, 3))
        self.assert_part(minus((4, 6), (0, 7)), (2, 3))

    def test_not_in_lowest_terms(self):
        self.assert_part(plus((2, 4), (3, 9)), (5, 6))
        self.assert_part(minus((2, 4), (3, 9)), (1, 6))
        self.assert_part(plus((10, 5), (4, 2)), (4, 1))

    def test_thirty_figures(self):
        self.assert_part(plus((1, BIG), (1, BIG - 1)), (2 * BIG - 1, BIG * (BIG - 1)))
        self.assert_part(minus((1, BIG), (1, BIG - 1)), (-1, BIG * (BIG - 1)))
        self.assert_part(plus((BIG, 1), (BIG, 1)), (2 * BIG, 1))
        self.assert_part(minus((-BIG, 1), (BIG, 1)), (-2 * BIG, 1))

    def test_all_small_parts_and_edges(self):
        for pairs in (SMALL_PARTS, PARTS):
            for one, other in itertools.product(pairs, repeat=2):
                self.assert_fraction(plus(one, other), Fraction(*one) + Fraction(*other))
                self.assert_fraction(minus(one, other), Fraction(*one) - Fraction(*other))


class Less(unittest.TestCase):
    def assert_less(self, one, other):
        self.assertIs(less(one, other), True)
        self.assertIs(less(other, one), False)

    def assert_equal_parts(self, one, other):
        self.assertIs(less(one, other), False)
        self.assertIs(less(other, one), False)

    def test_both_ways_about(self):
        self.assert_less((1, 3), (1, 2))
        self.assert_less((2, 3), (3, 4))
        self.assert_less((3, 1), (7, 2))

    def test_below_nought(self):
        self.assert_less((-1, 2), (-1, 3))
        self.assert_less((-1, 2), (1, 3))
        self.assert_less((-5, 1), (1, 100))

    def test_nought(self):
        self.assert_less((0, 1), (1, 9))
        self.assert_less((-1, 9), (0, 1))
        self.assert_equal_parts((0, 1), (0, 1))
        self.assert_equal_parts((0, 1), (0, 8))

    def test_equal_parts(self):
        self.assert_equal_parts((2, 3), (2, 3))
        self.assert_equal_parts((2, 3), (4, 6))
        self.assert_equal_parts((-2, 3), (-10, 15))
        self.assert_equal_parts((BIG, BIG), (1, 1))

    def test_thirty_figures(self):
        self.assert_less((BIG - 1, BIG), (1, 1))
        self.assert_less((BIG - 2, BIG - 1), (BIG - 1, BIG))
        self.assert_less((1, BIG), (1, BIG - 1))
        self.assert_less((-BIG, 1), (1 - BIG, 1))

    def test_all_small_parts_and_edges(self):
        for pairs in (SMALL_PARTS, PARTS):
            for one, other in itertools.product(pairs, repeat=2):
                self.assertIs(less(one, other), Fraction(*one) < Fraction(*other))


class NothingIsKept(Told):
    def test_asked_again(self):
        for _ in range(2):
            self.assert_part(lowest(6, 4), (3, 2))
            self.assert_part(plus((1, 2), (1, 3)), (5, 6))
            self.assert_part(minus((1, 2), (1, 3)), (1, 6))
            self.assertIs(less((1, 2), (1, 3)), False)

    def test_what_is_handed_in_stays(self):
        one, other = (2, 4), (-3, 9)
        plus(one, other)
        minus(one, other)
        less(one, other)
        self.assertEqual((one, other), ((2, 4), (-3, 9)))


if __name__ == "__main__":
    unittest.main()

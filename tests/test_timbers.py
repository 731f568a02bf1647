"""Points 1 to 3 and the interface's section argosy/timbers.py."""

import itertools
import unittest

from argosy.timbers import apart, common, many_common, rising

BIG = 10 ** 30 - 1
SMALL_LISTS = [list(row) for many in range(4) for row in itertools.product((-1, 0, 2), repeat=many)]


def plainly_rising(timbers):
    told = []
    for timber in timbers:
        if timber not in told:
            told.append(timber)
    told.sort()
    return told


class Told(unittest.TestCase):
    """What is told is compared by value and by kind: True == 1 would hide a bool."""

    def assert_list(self, told, wished):
        self.assertIs(type(told), list)
        self.assertEqual(told, wished)
        for timber in told:
            self.assertIs(type(timber), int)
        for ahead, behind in zip(told, told[1:]):
            self.assertLess(ahead, behind)

    def assert_number(self, told, wished):
        self.assertIs(type(told), int)
        self.assertEqual(told, wished)


class Rising(Told):
    def test_any_order(self):
        for row in itertools.permutations([3, 17, 40, 60]):
            self.assert_list(rising(list(row)), [3, 17, 40, 60])

    def test_several_times_counts_once(self):
        self.assert_list(rising([5, 2, 5, 5, 2, 9]), [2, 5, 9])
        self.assert_list(rising([7, 7, 7]), [7])

    def test_goes_by_numbers_and_not_by_figures(self):
        self.assert_list(rising([10, 9, 100, 1]), [1, 9, 10, 100])

    def test_empty(self):
        self.assert_list(rising([]), [])

    def test_one(self):
        self.assert_list(rising([4]), [4])

    def test_nought_and_below_it(self):
        self.assert_list(rising([0, -3, 3, -10, 0]), [-10, -3, 0, 3])

    def test_thirty_figures(self):
        self.assert_list(rising([BIG, BIG - 1, -BIG, BIG, 1 - BIG]), [-BIG, 1 - BIG, BIG - 1, BIG])

    def test_all_small_lists(self):
        for timbers in SMALL_LISTS:
            self.assert_list(rising(timbers), plainly_rising(timbers))

    def test_many(self):
        self.assert_list(rising(list(range(500, 0, -1)) * 2), list(range(1, 501)))


class Common(Told):
    def test_any_order(self):
        for one in itertools.permutations([8, 1, 30]):
            for other in itertools.permutations([30, 2, 8]):
                self.assert_list(common(list(one), list(other)), [8, 30])
                self.assert_number(many_common(list(one), list(other)), 2)

    def test_several_times_in_the_one_in_the_other_in_both(self):
        for one, other in (([4, 4, 1], [4, 2]), ([4, 1], [4, 2, 4]), ([4, 1, 4], [2, 4, 4, 4])):
            self.assert_list(common(one, other), [4])
            self.assert_number(many_common(one, other), 1)

    def test_empty(self):
        for one, other in (([], []), ([], [1, 2]), ([1, 2], [])):
            self.assert_list(common(one, other), [])
            self.assert_number(many_common(one, other), 0)

    def test_nothing_in_common(self):
        self.assert_list(common([3, 1], [2, 4]), [])
        self.assert_number(many_common([3, 1], [2, 4]), 0)

    def test_alike(self):
        self.assert_list(common([6, 2, 9], [9, 6, 2]), [2, 6, 9])
        self.assert_number(many_common([6, 2, 9], [9, 6, 2]), 3)

    def test_the_one_within_the_other(self):
        self.assert_list(common([5, 3], [1, 3, 5, 7]), [3, 5])
        self.assert_list(common([1, 3, 5, 7], [5, 3]), [3, 5])
        self.assert_number(many_common([5, 3], [1, 3, 5, 7]), 2)

    def test_nought_and_below_it(self):
        self.assert_list(common([0, -2, 2, -7], [-7, 7, 0, -1]), [-7, 0])
        self.assert_number(many_common([0, -2, 2, -7], [-7, 7, 0, -1]), 2)

    def test_thirty_figures(self):
        self.assert_list(common([BIG, -BIG, 1], [BIG - 1, -BIG, BIG]), [-BIG, BIG])
        self.assert_number(many_common([BIG, -BIG, 1], [BIG - 1, -BIG, BIG]), 2)
        self.assert_list(common([BIG], [BIG - 1]), [])

    def test_all_small_lists(self):
        for one, other in itertools.product(SMALL_LISTS, repeat=2):
            wished = plainly_rising([timber for timber in one if timber in other])
            self.assert_list(common(one, other), wished)
            self.assert_number(many_common(one, other), len(wished))


class Apart(Told):
    def test_any_order(self):
        for one in itertools.permutations([8, 1, 30, 5]):
            for other in itertools.permutations([30, 2, 8]):
                self.assert_list(apart(list(one), list(other)), [1, 5])

    def test_the_first_goes_first(self):
        self.assert_list(apart([1, 2], [2, 3]), [1])
        self.assert_list(apart([2, 3], [1, 2]), [3])

    def test_several_times_in_the_one_in_the_other_in_both(self):
        self.assert_list(apart([9, 4, 9, 1, 4], [1]), [4, 9])
        self.assert_list(apart([4, 1], [4, 2, 4]), [1])
        self.assert_list(apart([4, 1, 4, 1], [2, 4, 4, 2]), [1])

    def test_empty(self):
        self.assert_list(apart([], []), [])
        self.assert_list(apart([], [1, 2]), [])
        self.assert_list(apart([2, 1], []), [1, 2])

    def test_nothing_in_common(self):
        self.assert_list(apart([3, 1], [2, 4]), [1, 3])

    def test_alike(self):
        self.assert_list(apart([6, 2, 9], [9, 6, 2]), [])

    def test_nought_and_below_it(self):
        self.assert_list(apart([0, -2, 2, -7], [-7, 7, -1]), [-2, 0, 2])

    def test_thirty_figures(self):
        self.assert_list(apart([BIG, -BIG, BIG - 1], [BIG]), [-BIG, BIG - 1])

    def test_all_small_lists(self):
        for one, other in itertools.product(SMALL_LISTS, repeat=2):
            wished = plainly_rising([timber for timber in one if timber not in other])
            self.assert_list(apart(one, other), wished)


class NothingIsChangedOrKept(Told):
    def test_what_is_handed_in_stays_in_its_order(self):
        one, other = [9, 2, 9, -1], [2, 30, 2, 0]
        rising(one)
        for asked in (common, apart, many_common):
            asked(one, other)
        self.assertEqual(one, [9, 2, 9, -1])
        self.assertEqual(other, [2, 30, 2, 0])

    def test_one_list_on_both_sides(self):
        both = [3, 1, 3]
        self.assert_list(common(both, both), [1, 3])
        self.assert_list(apart(both, both), [])
        self.assert_number(many_common(both, both), 2)
        self.assertEqual(both, [3, 1, 3])

    def test_a_told_list_is_the_callers_own(self):
        for one, other in (([1, 2, 3], [1, 2, 3]), ([], []), ([3, 1], []), ([1, 2], [1, 2, 5])):
            ahead = (list(one), list(other))
            for asked in (common, apart, lambda timbers, _: rising(timbers)):
                told = asked(one, other)
                wished = list(told)
                told.append(99)
                told[0] = 77
                self.assertEqual((one, other), ahead)
                self.assert_list(asked(one, other), wished)

    def test_lists_changed_behind_are_told_anew(self):
        one, other = [1, 2], [2]
        self.assert_list(common(one, other), [2])
        told = rising(one)
        one.append(0)
        other.append(1)
        self.assert_list(told, [1, 2])
        self.assert_list(rising(one), [0, 1, 2])
        self.assert_list(common(one, other), [1, 2])
        self.assert_list(apart(one, other), [0])
        self.assert_number(many_common(one, other), 2)


if __name__ == "__main__":
    unittest.main()

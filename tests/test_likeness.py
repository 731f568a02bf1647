"""Points 1 to 4 and the interface's section argosy/likeness.py."""

import itertools
import random
import unittest

from argosy.errors import ArgosyError, BadFleet
from argosy.likeness import paired, same
from tests.plain import BIG, plainly_same

SMALL_LISTS = [list(row) for many in range(5) for row in itertools.product((-1, 0, 7), repeat=many)]
SMALL_BOATS = [list(row) for many in range(1, 6) for row in itertools.combinations((1, 2, 3, 4, 5), many)]


def some_fleet(chance, timbers, boats):
    """A fleet of so many boats, drawn out of the timbers; some are left over."""
    left = list(timbers)
    chance.shuffle(left)
    fleet = [[left.pop()] for _ in range(boats)]
    for boat in fleet:
        for _ in range(chance.randrange(6)):
            if left:
                boat.append(left.pop())
    return fleet


class Same(unittest.TestCase):
    def assert_same(self, one, other, wished):
        self.assertIs(same(one, other), wished)
        self.assertIs(same(other, one), wished)

    def test_just_half_one_more_and_one_less_of_the_one(self):
        # The other lies within the one, so that only the one's half counts.
        for half in range(1, 7):
            one = list(range(1, 2 * half + 1))
            self.assert_same(one, one[:half], False)
            self.assert_same(one, one[:half + 1], True)
            self.assert_same(one, one[:half - 1], False)

    def test_about_the_half_of_an_odd_boat(self):
        for half in range(1, 6):
            one = list(range(1, 2 * half + 2))
            self.assert_same(one, one[:half], False)
            self.assert_same(one, one[:half + 1], True)

    def test_just_half_one_more_and_one_less_of_both(self):
        for half in range(1, 7):
            one = list(range(1, 2 * half + 1))
            for shared, wished in ((half - 1, False), (half, False), (half + 1, True)):
                other = one[:shared] + list(range(101, 101 + 2 * half - shared))
                self.assertEqual(len(other), 2 * half)
                self.assert_same(one, other, wished)

    def test_more_than_half_of_the_one_alone_is_not_enough(self):
        self.assert_same([1, 2, 3], [1, 2, 4, 5], False)
        self.assert_same([1, 2, 3], [1, 2, 3, 4, 5], True)
        self.assert_same([1, 2, 3], [1, 2, 3, 4, 5, 6], False)
        self.assert_same([1], [1, 2], False)

    def test_alike_in_any_order(self):
        for one in itertools.permutations([4, 9, 30]):
            for other in itertools.permutations([30, 4, 5]):
                self.assert_same(list(one), list(other), True)

    def test_a_timber_several_times_counts_once(self):
        self.assert_same([1, 1, 1, 2], [1, 1, 1, 3], False)
        self.assert_same([1, 2, 3], [1, 2, 4, 4, 4, 4, 4], True)
        self.assert_same([1, 2, 2, 2, 2], [1, 3], False)
        self.assert_same([5, 5, 5], [5], True)
        self.assert_same([1, 1, 2, 3], [1, 1, 4], False)

    def test_without_timbers(self):
        for other in ([], [1], [1, 2], [0], [-1, 5]):
            self.assert_same([], other, False)

    def test_nothing_in_common(self):
        self.assert_same([1], [2], False)
        self.assert_same([1, 2, 3], [4, 5, 6], False)

    def test_any_numbers(self):
        self.assert_same([BIG, -BIG, 0], [-BIG, BIG], True)
        self.assert_same([BIG, -BIG, 0, 1], [-BIG, BIG], False)
        self.assert_same([BIG], [BIG - 1], False)
        self.assert_same([-3, 0], [0, -3], True)
        self.assert_same([3, 1], [-3, -1], False)

    def test_all_small_lists(self):
        for one, other in itertools.product(SMALL_LISTS, repeat=2):
            self.assertIs(same(one, other), plainly_same(one, other))

    def test_all_small_boats(self):
        for one, other in itertools.product(SMALL_BOATS, repeat=2):
            self.assertIs(same(one, other), plainly_same(one, other))

    def test_what_is_handed_in_stays_in_its_order(self):
        one, other = [9, 2, 9, 5], [5, 9, 5, 2]
        for _ in range(2):
            self.assertIs(same(one, other), True)
        self.assertEqual((one, other), ([9, 2, 9, 5], [5, 9, 5, 2]))
        self.assertIs(same(one, one), True)
        self.assertEqual(one, [9, 2, 9, 5])


class Paired(unittest.TestCase):
    def assert_pairs(self, told, wished):
        self.assertIs(type(told), list)
        self.assertEqual(told, wished)
        for pair in told:
            self.assertIs(type(pair), tuple)
            self.assertEqual([type(place) for place in pair], [int, int])

    def test_none(self):
        self.assert_pairs(paired([], []), [])
        self.assert_pairs(paired([], [[1]]), [])
        self.assert_pairs(paired([[1], [2]], []), [])

    def test_one(self):
        self.assert_pairs(paired([[3, 1]], [[1, 3]]), [(0, 0)])
        self.assert_pairs(paired([[3, 1]], [[1]]), [])
        self.assert_pairs(paired([[3, 1, 2]], [[1, 2]]), [(0, 0)])

    def test_the_first_place_is_of_the_fleet_ahead(self):
        self.assert_pairs(paired([[1], [2], [3, 4]], [[3, 4]]), [(2, 0)])
        self.assert_pairs(paired([[3, 4]], [[1], [2], [3, 4]]), [(0, 2)])

    def test_just_half_and_one_more(self):
        ahead = [[1, 2, 3, 4], [5, 6, 7, 8]]
        self.assert_pairs(paired(ahead, [[1, 2, 9, 10], [5, 6, 7, 11]]), [(1, 1)])
        self.assert_pairs(paired(ahead, [[1, 2, 5, 6], [3, 4, 7, 8]]), [])
        self.assert_pairs(paired(ahead, [[5, 6, 7, 4], [1, 2, 3, 8]]), [(0, 1), (1, 0)])

    def test_eight_boats_the_other_way_about(self):
        ahead = [[place, 10 + place, 20 + place] for place in range(1, 9)]
        self.assert_pairs(paired(ahead, ahead[::-1]), [(place, 7 - place) for place in range(8)])
        self.assert_pairs(paired(ahead, ahead), [(place, place) for place in range(8)])

    def test_many_boats(self):
        ahead = [[place] for place in range(30)]
        behind = [[place] for place in range(29, -1, -1)]
        self.assert_pairs(paired(ahead, behind), [(place, 29 - place) for place in range(30)])

    def test_a_timber_several_times_in_one_boat_is_no_fault(self):
        self.assert_pairs(paired([[1, 1], [2, 3, 2]], [[3, 2], [1, 1, 1]]), [(0, 1), (1, 0)])
        self.assert_pairs(paired([[1, 2, 3]], [[1, 2, 4, 4, 4]]), [(0, 0)])
        self.assert_pairs(paired([[1, 1, 1, 2]], [[1, 3]]), [])

    def test_any_numbers(self):
        self.assert_pairs(paired([[BIG], [-BIG, 0]], [[0, -BIG], [BIG - 1]]), [(1, 0)])
        self.assert_pairs(paired([[0]], [[0]]), [(0, 0)])

    def test_many_fleets(self):
        chance = random.Random(4)
        for _ in range(400):
            ahead = some_fleet(chance, range(-5, 45), chance.randrange(10))
            behind = some_fleet(chance, range(-5, 45), chance.randrange(10))
            if ahead and chance.randrange(2):
                behind = [list(boat) for boat in ahead]
                chance.shuffle(behind)
                for boat in behind:
                    boat[0] = chance.choice([boat[0], 100 + boat[0]])
                    boat.extend(200 + boat[0] + 50 * extra for extra in range(chance.randrange(4)))
                    chance.shuffle(boat)
            wished = [
                (at, to) for at, to in itertools.product(range(len(ahead)), range(len(behind)))
                if plainly_same(ahead[at], behind[to])
            ]
            self.assert_pairs(paired(ahead, behind), wished)
            self.assert_pairs(paired(behind, ahead), sorted((to, at) for at, to in wished))
            # By point 4 each boat is the same boat as one of the other fleet at most.
            self.assertEqual(len({at for at, _ in wished}), len(wished))
            self.assertEqual(len({to for _, to in wished}), len(wished))


class NoFleet(unittest.TestCase):
    FLEETS = ([], [[4]], [[4, 5], [6]], [[1, 1], [2, 2, 2]])
    NO_FLEETS = (
        [[]], [[], []], [[], [1]], [[1], []], [[1], [], [2]], [[1, 2], [3], []],
        [[1], [1]], [[1, 2], [3], [4, 1]], [[1, 2], [2, 3]], [[5], [1, 2, 3], [9, 3]], [[0], [0]], [[-1, 2], [3, -1]],
        [[BIG], [1], [BIG]], [[7, 7], [7]], [[1], []], [[2, 1], [1, 2]],
        [[place] for place in range(8)] + [[0]], [[place] for place in range(8)] + [[]],
    )

    def assert_refused(self, ahead, behind):
        with self.assertRaises(ArgosyError) as refused:
            paired(ahead, behind)
        self.assertIs(type(refused.exception), BadFleet)

    def test_the_first_the_second_and_both(self):
        for wrong in self.NO_FLEETS:
            for fleet in self.FLEETS:
                with self.subTest(wrong=wrong, fleet=fleet):
                    self.assert_refused(wrong, fleet)
                    self.assert_refused(fleet, wrong)
            self.assert_refused(wrong, wrong)

    def test_a_timber_in_both_fleets_is_no_fault(self):
        for ahead, behind in itertools.product(self.FLEETS, repeat=2):
            self.assertIs(type(paired(ahead, behind)), list)

    def test_just_where_it_is_due(self):
        boats = [list(row) for many in range(3) for row in itertools.product((1, 2, 3), repeat=many)]
        for ahead in itertools.product(boats, repeat=2):
            sets = [set(boat) for boat in ahead]
            fleet = all(sets) and not sets[0] & sets[1]
            if fleet:
                paired(list(ahead), [[1]])
                paired([[1]], list(ahead))
            else:
                self.assert_refused(list(ahead), [[1]])
                self.assert_refused([[1]], list(ahead))


class NothingIsChangedOrKept(unittest.TestCase):
    def test_what_is_handed_in_stays(self):
        ahead, behind = [[9, 2, 9], [4, 1]], [[1, 4, 4], [2, 9]]
        paired(ahead, behind)
        self.assertEqual(ahead, [[9, 2, 9], [4, 1]])
        self.assertEqual(behind, [[1, 4, 4], [2, 9]])

    def test_what_is_refused_stays(self):
        ahead, behind = [[9, 2, 9], [2, 1]], [[3, 1], []]
        for one, other in ((ahead, behind), (behind, ahead)):
            with self.assertRaises(BadFleet):
                paired(one, other)
        self.assertEqual((ahead, behind), ([[9, 2, 9], [2, 1]], [[3, 1], []]))

    def test_one_fleet_on_both_sides(self):
        fleet = [[3, 1], [2]]
        self.assertEqual(paired(fleet, fleet), [(0, 0), (1, 1)])
        self.assertEqual(fleet, [[3, 1], [2]])

    def test_a_told_list_is_the_callers_own(self):
        ahead, behind = [[1], [2]], [[2], [1]]
        told = paired(ahead, behind)
        told.append((7, 7))
        told[0] = None
        self.assertEqual(paired(ahead, behind), [(0, 1), (1, 0)])
        behind[0].append(3)
        self.assertEqual(paired(ahead, behind), [(0, 1)])


if __name__ == "__main__":
    unittest.main()

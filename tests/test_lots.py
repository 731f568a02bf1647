"""Points 1, 2, 5 and 15, and the interface's section argosy/lots.py."""

import itertools
import random
import unittest
from fractions import Fraction
from math import comb, gcd

from argosy.errors import BadNumber
from argosy.lots import dealt, goes_as, goes_on, mean_going
from tests.plain import BIG, Refusing, part, plainly_same

NO_SIZES = (0, -1, -12, 13, 14, BIG, -BIG)


def fleet_of(sizes):
    """Boats of these sizes, of the timbers from 1 on."""
    ends = list(itertools.accumulate(sizes))
    return [range(end - size + 1, end + 1) for size, end in zip(sizes, ends)]


def all_ways(timbers, sizes):
    """All ways to deal boats of these sizes, each of them once."""
    if not sizes:
        return [[]]
    return [
        [boat] + rest
        for boat in itertools.combinations(timbers, sizes[0])
        for rest in all_ways([timber for timber in timbers if timber not in boat], sizes[1:])
    ]


def small_fleets():
    for ahead in ([1], [2], [5], [1, 1], [2, 1], [3, 2], [2, 3], [4, 1], [1, 1, 1], [2, 2, 1], [3, 1, 2], [3, 3]):
        for behind in ([1], [2], [3], [4], [5], [1, 1], [2, 1], [3, 2], [1, 3], [3, 3], [1, 1, 1], [2, 2, 1]):
            if sum(behind) <= sum(ahead):
                yield ahead, behind


def some_sizes(chance, many=None):
    return [chance.randint(1, 12) for _ in range(many or chance.randint(1, 8))]


def some_fleets(chance):
    """Two lists of sizes, behind no more timbers than ahead."""
    while True:
        ahead, behind = some_sizes(chance), some_sizes(chance)
        if sum(behind) <= sum(ahead):
            return ahead, behind


class Lots(Refusing):
    def assert_part(self, told, wished=None):
        """A part in lowest terms, nought as (0, 1)."""
        self.assertEqual((type(told), [type(one) for one in told]), (tuple, [int, int]))
        top, bottom = told
        self.assertGreater(bottom, 0)
        self.assertEqual(gcd(top, bottom), 1)
        if wished is not None:
            self.assertEqual(told, part(Fraction(wished)))
        return Fraction(top, bottom)

    def assert_chance(self, told, wished=None):
        chance = self.assert_part(told, wished)
        self.assertTrue(0 <= chance <= 1)
        return chance


class AllWays(Lots):
    def test_small_fleets(self):
        for ahead, behind in small_fleets():
            boats = fleet_of(ahead)
            ways = all_ways(range(1, sum(ahead) + 1), behind)
            going = [[[plainly_same(boat, other) for other in way] for boat in boats] for way in ways]
            for at in range(len(ahead)):
                for to in range(len(behind)):
                    wished = Fraction(sum(told[at][to] for told in going), len(ways))
                    self.assert_chance(goes_as(ahead, at, behind, to), wished)
                wished = Fraction(sum(any(told[at]) for told in going), len(ways))
                self.assert_chance(goes_on(ahead, at, behind), wished)
            wished = Fraction(sum(any(row) for told in going for row in told), len(ways))
            self.assert_part(mean_going(ahead, behind), wished)

    def test_small_drawings(self):
        for ahead in ([1], [4], [2, 3], [4, 1, 2], [1, 1, 3], [3, 3]):
            timbers = range(1, sum(ahead) + 1)
            for at, boat in enumerate(fleet_of(ahead)):
                strange = [timber for timber in timbers if timber not in boat]
                for size in timbers:
                    for drawn, mine in itertools.product(range(size + 1), range(len(boat) + 1)):
                        if 0 <= drawn - mine <= len(strange):
                            known = list(boat)[:mine] + strange[:drawn - mine]
                            left = [timber for timber in timbers if timber not in known]
                            ways = [known + list(more) for more in itertools.combinations(left, size - drawn)]
                            wished = Fraction(sum(plainly_same(boat, way) for way in ways), len(ways))
                            self.assert_chance(dealt(ahead, at, size, drawn, mine), wished)


class Chances(Lots):
    def test_some_of_them(self):
        self.assertEqual(goes_as([1], 0, [1], 0), (1, 1))
        self.assertEqual(goes_as([2], 0, [1], 0), (0, 1))
        self.assertEqual(goes_as([1, 1], 1, [1, 1], 0), (1, 2))
        self.assertEqual(goes_as([3, 3], 0, [3, 3], 1), (1, 2))
        self.assertEqual(goes_on([3, 3], 0, [3, 3]), (1, 1))
        self.assertEqual(mean_going([3, 3], [3, 3]), (2, 1))
        self.assertEqual(goes_on([2, 2], 1, [2, 2]), (1, 3))
        self.assertEqual(mean_going([2, 2], [2, 2]), (2, 3))
        self.assertEqual(goes_on([12], 0, [6, 6]), (0, 1))
        self.assertEqual(goes_on([12], 0, [7]), (1, 1))
        self.assertEqual(goes_on([12], 0, [7, 5]), (1, 1))
        self.assertEqual(goes_as([12], 0, [7, 5], 1), (0, 1))
        self.assertEqual(goes_as([6, 6], 0, [12], 0), (0, 1))
        self.assertEqual(goes_as([7, 5], 0, [12], 0), (1, 1))

    def test_fleets_of_eight_boats_of_twelve(self):
        twelves = [12] * 8
        wished = Fraction(sum(comb(12, hit) * comb(84, 12 - hit) for hit in range(7, 13)), comb(96, 12))
        self.assert_chance(goes_as(twelves, 7, twelves, 7), wished)
        self.assert_chance(goes_on(twelves, 0, twelves), 8 * wished)
        self.assert_part(mean_going(twelves, twelves), 64 * wished)
        self.assert_chance(dealt(twelves, 3, 12, 0, 0), wished)

    def test_sums_over_fleets_drawn(self):
        chance = random.Random(15)
        for _ in range(60):
            ahead, behind = some_fleets(chance)
            mean = Fraction(0)
            for at in range(len(ahead)):
                each = [self.assert_chance(goes_as(ahead, at, behind, to)) for to in range(len(behind))]
                mean += self.assert_chance(goes_on(ahead, at, behind), sum(each))
            self.assert_part(mean_going(ahead, behind), mean)

    def test_by_size_alone(self):
        chance = random.Random(16)
        for _ in range(30):
            ahead, behind = some_fleets(chance)
            many = sum(ahead)
            for (at, one), (to, other) in itertools.product(enumerate(ahead), enumerate(behind)):
                hits = [hit for hit in range(min(one, other) + 1) if 2 * hit > one and 2 * hit > other]
                good = sum(comb(one, hit) * comb(many - one, other - hit) for hit in hits)
                self.assert_chance(goes_as(ahead, at, behind, to), Fraction(good, comb(many, other)))


class WhileDealt(Lots):
    def test_none_drawn(self):
        chance = random.Random(17)
        for _ in range(60):
            ahead, behind = some_fleets(chance)
            for at in range(len(ahead)):
                for to, size in enumerate(behind):
                    self.assertEqual(dealt(ahead, at, size, 0, 0), goes_as(ahead, at, behind, to))

    def assert_steps(self, ahead, at, size):
        """At each step the mean of the chances behind the next timber; at the end one or nought."""
        strange = sum(ahead) - ahead[at]
        for drawn in range(size + 1):
            for mine in range(max(0, drawn - strange), min(drawn, ahead[at]) + 1):
                told = self.assert_chance(dealt(ahead, at, size, drawn, mine))
                own, others = ahead[at] - mine, strange - (drawn - mine)
                if drawn == size:
                    self.assertEqual(told, int(2 * mine > ahead[at] and 2 * mine > size))
                    continue
                wished = Fraction(0)
                if own:
                    wished += Fraction(own, own + others) * Fraction(*dealt(ahead, at, size, drawn + 1, mine + 1))
                if others:
                    wished += Fraction(others, own + others) * Fraction(*dealt(ahead, at, size, drawn + 1, mine))
                self.assertEqual(told, wished)

    def test_the_mean_of_those_behind_the_next_timber(self):
        for ahead, at in (([1], 0), ([12], 0), ([5, 7], 0), ([5, 7], 1), ([3, 1, 2, 9], 1), ([12] * 8, 5)):
            for size in range(1, min(12, sum(ahead)) + 1):
                self.assert_steps(ahead, at, size)

    def test_at_the_end(self):
        self.assertEqual(dealt([5, 5], 0, 4, 4, 3), (1, 1))
        self.assertEqual(dealt([5, 5], 0, 4, 4, 2), (0, 1))
        self.assertEqual(dealt([4, 6], 0, 4, 4, 2), (0, 1))
        self.assertEqual(dealt([4, 6], 0, 5, 5, 3), (1, 1))
        self.assertEqual(dealt([4, 8], 0, 6, 6, 3), (0, 1))

    def test_where_it_is_settled_ahead_of_the_end(self):
        self.assertEqual(dealt([5, 8], 0, 5, 3, 3), (1, 1))
        self.assertEqual(dealt([5, 8], 0, 5, 3, 0), (0, 1))


class Refusals(Lots):
    def all_calls(self, ahead, behind, at=0, to=0):
        return (
            lambda: goes_as(ahead, at, behind, to),
            lambda: goes_on(ahead, at, behind),
            lambda: mean_going(ahead, behind),
        )

    def test_fleets_of_no_size_and_of_nine(self):
        self.assert_refused(BadNumber, *self.all_calls([], [1]), *self.all_calls([1], []), *self.all_calls([], []))
        self.assert_refused(BadNumber, *self.all_calls([1] * 9, [1]), *self.all_calls([12] * 8, [1] * 9))
        self.assert_refused(BadNumber, *self.all_calls([1] * 9, [1] * 9))
        self.assert_refused(BadNumber, lambda: dealt([], 0, 1, 0, 0), lambda: dealt([1] * 9, 0, 1, 0, 0))
        for many in range(1, 9):
            for call in self.all_calls([1] * 8, [1] * many):
                call()
            dealt([1] * many, many - 1, 1, 0, 0)

    def test_sizes(self):
        for size in NO_SIZES:
            for fleet in ([size], [size, 12], [12, size], [12, 12, size]):
                self.assert_refused(BadNumber, *self.all_calls(fleet, [1]), *self.all_calls([12] * 8, fleet))
                for at in range(len(fleet)):
                    self.assert_refused(BadNumber, lambda: dealt(fleet, at, 1, 0, 0))
        for size in range(1, 13):
            for call in self.all_calls([size], [size]) + self.all_calls([12, size], [size, 12]):
                self.assert_part(call())

    def test_more_timbers_behind_than_ahead(self):
        for ahead, behind in (([1], [2]), ([5, 5], [11]), ([5, 5], [4, 4, 3]), ([1] * 8, [9]), ([12], [1] * 7 + [6])):
            self.assert_refused(BadNumber, *self.all_calls(ahead, behind))
            for call in self.all_calls(ahead, behind[:-1] + [behind[-1] - 1]):
                self.assert_part(call())

    def test_places(self):
        for ahead, behind in (([3], [2]), ([3, 4], [2, 1, 1]), ([12] * 8, [12] * 8)):
            for at in (-1, -2, -len(ahead), len(ahead), len(ahead) + 1, BIG, -BIG):
                self.assert_refused(BadNumber, *self.all_calls(ahead, behind, at)[:2])
                self.assert_refused(BadNumber, lambda: dealt(ahead, at, 1, 0, 0))
            for to in (-1, -2, -len(behind), len(behind), len(behind) + 1, BIG, -BIG):
                self.assert_refused(BadNumber, lambda: goes_as(ahead, 0, behind, to))
            for at in (0, len(ahead) - 1):
                for to in (0, len(behind) - 1):
                    self.assert_chance(goes_as(ahead, at, behind, to))

    def test_the_size_dealt(self):
        for size in NO_SIZES:
            self.assert_refused(BadNumber, lambda: dealt([12] * 8, 0, size, 0, 0))
        for ahead in ([1], [3], [2, 3], [4, 4, 3]):
            for size in range(1, 13):
                if size <= sum(ahead):
                    self.assert_chance(dealt(ahead, 0, size, 0, 0))
                else:
                    self.assert_refused(BadNumber, lambda: dealt(ahead, 0, size, 0, 0))

    def test_how_many_are_drawn(self):
        for size in range(1, 13):
            for drawn in (-1, -2, size + 1, size + 2, BIG, -BIG):
                self.assert_refused(BadNumber, lambda: dealt([12, 12], 0, size, drawn, 0))
                self.assert_refused(BadNumber, lambda: dealt([12, 12], 0, size, drawn, drawn))
            for drawn in (0, 1, size - 1, size):
                self.assert_chance(dealt([12, 12], 0, size, drawn, 0))
                self.assert_chance(dealt([12, 12], 0, size, drawn, drawn))

    def test_mine_and_those_of_the_others(self):
        for ahead, at in (([3, 4], 0), ([3, 4], 1), ([2, 2, 2], 1), ([5], 0), ([1, 12], 0), ([12, 1], 0)):
            strange = sum(ahead) - ahead[at]
            for size in range(1, min(12, sum(ahead)) + 1):
                for drawn in range(size + 1):
                    for mine in list(range(-2, drawn + 3)) + [BIG, -BIG]:
                        if 0 <= mine <= ahead[at] and 0 <= drawn - mine <= strange:
                            self.assert_chance(dealt(ahead, at, size, drawn, mine))
                        else:
                            self.assert_refused(BadNumber, lambda: dealt(ahead, at, size, drawn, mine))


class TheLists(Lots):
    def test_those_handed_in_stay(self):
        ahead, behind = [5, 2, 9], [3, 8, 1]
        for _ in range(2):
            self.assertEqual(goes_as(ahead, 2, behind, 1), goes_as([5, 2, 9], 2, [8], 0))
            self.assert_chance(goes_on(ahead, 2, behind))
            self.assert_part(mean_going(ahead, behind))
            self.assert_chance(dealt(ahead, 2, 8, 3, 2))
            self.assertEqual((ahead, behind), ([5, 2, 9], [3, 8, 1]))

    def test_lists_changed_behind_a_call(self):
        ahead, behind = [3, 3], [3]
        self.assertEqual(goes_as(ahead, 0, behind, 0), (1, 2))
        ahead.pop()
        self.assertEqual(goes_as(ahead, 0, behind, 0), (1, 1))
        behind[0] = 1
        self.assertEqual((goes_on(ahead, 0, behind), mean_going(ahead, behind)), ((0, 1), (0, 1)))
        behind.append(3)
        self.assert_refused(BadNumber, lambda: goes_as(ahead, 0, behind, 0), lambda: mean_going(ahead, behind))
        ahead.append(1)
        self.assert_chance(goes_as(ahead, 0, behind, 1))
        self.assertEqual(dealt(ahead, 1, 1, 0, 0), (1, 4))


if __name__ == "__main__":
    unittest.main()

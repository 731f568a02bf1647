"""Points 1 to 4 and 12, and the interface's section argosy/choices.py."""

import itertools
import math
import random
import unittest

from argosy.choices import choice, choices, number_of
from argosy.errors import BadFleet, BadNumber, NoChoice
from tests.plain import BIG, Refusing, plainly_same, some_of

NO_SLIPS = (0, -1, 13, 14, -12, BIG, -BIG)


def all_choices(boat, others, slip):
    """All next boats listed one by one, in the order told."""
    told = []
    for next_boat in some_of(sorted(set(boat) | set(others))):
        if len(next_boat) <= slip and plainly_same(boat, next_boat):
            kept = tuple(timber for timber in next_boat if timber in boat)
            new = tuple(timber for timber in next_boat if timber in others)
            told.append((len(kept), len(new), kept, new))
    return [sorted(kept + new) for _, _, kept, new in sorted(told)]


def asked(boat, others, slip, number=0, next_boat=(1,)):
    """The three calls, each with what it asks."""
    return (
        lambda: choices(boat, others, slip),
        lambda: choice(boat, others, slip, number),
        lambda: number_of(boat, others, slip, list(next_boat)),
    )


class Choices(Refusing):
    def assert_there_and_back(self, boat, others, slip, number):
        told = choice(boat, others, slip, number)
        self.assertEqual(number_of(boat, others, slip, told), number)
        self.assertEqual(told, sorted(set(told)))
        self.assertLessEqual(len(told), slip)
        self.assertTrue(plainly_same(boat, told))
        self.assertEqual(set(told) - set(boat) - set(others), set())
        return told


class AllListed(Choices):
    def assert_as_listed(self, boat, others, slip):
        listed = all_choices(boat, others, slip)
        many = choices(boat, others, slip)
        self.assertEqual((many, type(many)), (len(listed), int))
        for number, wished in enumerate(listed):
            told = choice(boat, others, slip, number)
            self.assertEqual((told, type(told)), (wished, list))
            back = number_of(boat, others, slip, wished)
            self.assertEqual((back, type(back)), (number, int))
        self.assert_refused(
            NoChoice, lambda: choice(boat, others, slip, -1), lambda: choice(boat, others, slip, len(listed)))
        return listed

    def assert_no_other_is_one(self, boat, others, slip):
        listed = all_choices(boat, others, slip)
        for next_boat in some_of([-3] + sorted(boat + others) + [BIG]):
            if list(next_boat) not in listed:
                self.assert_refused(NoChoice, lambda: number_of(boat, others, slip, list(next_boat)))

    def test_small_boats_and_others(self):
        # The others stand between the boat's timbers, ahead of them and behind.
        for many in range(1, 6):
            for new in range(5):
                boat, others = list(range(2, 2 + 2 * many, 2)), [1, 5, 7, 30][:new]
                for slip in range(many, 13):
                    self.assert_as_listed(boat, others, slip)

    def test_no_other_next_boat_is_one(self):
        for boat, others, slip in (
            ([2, 4, 6], [1, 3, 9], 4), ([2, 4, 6, 8], [5, 60], 12), ([7], [8, 9], 3), ([1, 2], [], 2),
        ):
            self.assert_no_other_is_one(boat, others, slip)

    def test_in_any_order_and_some_twice(self):
        self.assertEqual(
            self.assert_as_listed([9, 3, 9, 5], [4, 60, 4, 1], 4), self.assert_as_listed([3, 5, 9], [1, 4, 60], 4))
        self.assert_as_listed([60, 1, 30, 30, 1], [59, 2, 31, 2, 2], 3)

    def test_drawn(self):
        chance = random.Random(12)
        for _ in range(40):
            timbers = chance.sample(range(1, 61), 10)
            many = chance.randint(1, 7)
            boat, others = timbers[:many], timbers[many:many + chance.randint(0, 3)]
            self.assert_as_listed(boat, others, chance.randint(many, 12))

    def test_a_short_list_in_its_order(self):
        wished = [[2, 4], [2, 6], [4, 6], [1, 2, 4], [2, 4, 5], [1, 2, 6], [2, 5, 6], [1, 4, 6], [4, 5, 6], [2, 4, 6]]
        self.assertEqual([choice([2, 4, 6], [1, 5], 3, number) for number in range(10)], wished)
        self.assertEqual(choices([2, 4, 6], [1, 5], 3), 10)

    def test_one_timber(self):
        for slip in range(1, 13):
            self.assertEqual(choices([5], [1, 2, 9], slip), 1)
            self.assertEqual(choice([5], [1, 2, 9], slip, 0), [5])
            self.assertEqual(number_of([5], [1, 2, 9], slip, [5]), 0)

    def test_numbers_somewhat_beyond_those_of_timbers(self):
        self.assert_as_listed([0, 61, 70], [-1, 65], 4)


class VeryMany(Choices):
    def test_twelve_timbers_and_many_others(self):
        boat = list(range(3, 51, 4))
        for many in (0, 1, 5, 11, 12, 48, 49, 200):
            others = [timber for timber in range(1, 300) if timber not in boat][:many]
            count = choices(boat, others, 12)
            groups = [(kept, new) for kept in range(7, 13) for new in range(13 - kept)]
            self.assertEqual(count, sum(math.comb(12, kept) * math.comb(many, new) for kept, new in groups))
            self.assertEqual(self.assert_there_and_back(boat, others, 12, 0), boat[:7])
            self.assertEqual(self.assert_there_and_back(boat, others, 12, count - 1), boat)
            for part in range(1, 60):
                self.assert_there_and_back(boat, others, 12, count * part // 60)
            for number in (-1, count, count + 1, BIG, -BIG):
                self.assert_refused(NoChoice, lambda: choice(boat, others, 12, number))

    def test_a_smaller_boat_and_a_longer_slip(self):
        boat = [1, 8, 20, 31, 44, 45, 60]
        others = [timber for timber in range(3, 60, 3) if timber not in boat]
        count = choices(boat, others, 12)
        groups = [(kept, new) for kept in range(4, 8) for new in range(min(kept - 1, 12 - kept) + 1)]
        self.assertEqual(count, sum(math.comb(7, kept) * math.comb(len(others), new) for kept, new in groups))
        last = self.assert_there_and_back(boat, others, 12, count - 1)
        self.assertEqual(last, sorted(boat + sorted(others)[-5:]))

    def test_the_order_of_drawn_ones(self):
        chance = random.Random(7)
        boat, others = list(range(1, 13)), list(range(13, 61))

        def key(told):
            kept, new = tuple(t for t in told if t <= 12), tuple(t for t in told if t > 12)
            return (len(kept), len(new), kept, new)

        count = choices(boat, others, 12)
        numbers = sorted(chance.sample(range(count), 300))
        keys = [key(self.assert_there_and_back(boat, others, 12, number)) for number in numbers]
        self.assertEqual(keys, sorted(keys))
        for number in numbers[:50]:
            one, other = choice(boat, others, 12, number), choice(boat, others, 12, number + 1)
            self.assertLess(key(one), key(other))

    def test_next_boats_of_which_a_timber_is_changed(self):
        boat, others = list(range(1, 13)), list(range(13, 61))
        for strange in (0, -20, 61, BIG):
            self.assert_refused(NoChoice, lambda: number_of(boat, others, 12, boat[:9] + [strange]))
        self.assert_there_and_back(boat, others, 12, number_of(boat, others, 12, boat[:9] + [60]))


class NextBoats(Choices):
    def test_just_half_kept_of_the_boat(self):
        for half in range(1, 7):
            boat = list(range(1, 2 * half + 1))
            self.assert_refused(NoChoice, lambda: number_of(boat, [60], 12, boat[:half]))
            self.assertEqual(number_of(boat, [60], 12, boat[:half + 1]), 0)

    def test_just_half_kept_of_the_next_boat(self):
        for many in range(1, 7):
            boat, others = list(range(1, many + 1)), list(range(20, 40))
            self.assert_refused(NoChoice, lambda: number_of(boat, others, 12, boat + others[:many]))
            self.assertIs(type(number_of(boat, others, 12, boat + others[:many - 1])), int)

    def test_too_many_timbers(self):
        boat, others = [1, 2, 3, 4], [5, 6, 7]
        for slip in (4, 5, 6, 7):
            for many in range(4):
                next_boat = boat + others[:many]
                if many <= slip - 4:
                    self.assertEqual(choice(boat, others, slip, number_of(boat, others, slip, next_boat)), next_boat)
                else:
                    self.assert_refused(NoChoice, lambda: number_of(boat, others, slip, next_boat))

    def test_a_timber_of_neither(self):
        for strange in (0, -1, 4, 61, BIG, -BIG):
            self.assert_refused(NoChoice, lambda: number_of([1, 2, 3], [5, 6], 4, [1, 2, 3, strange]))
        self.assertEqual(number_of([1, 2, 3], [5, 6], 4, [1, 2, 3, 6]), choices([1, 2, 3], [5, 6], 4) - 1)

    def test_none_and_nothing_in_common(self):
        for next_boat in ([], [5], [5, 6], [BIG]):
            self.assert_refused(NoChoice, lambda: number_of([1, 2, 3], [5, 6], 4, next_boat))

    def test_in_any_order_and_some_twice(self):
        for row in itertools.permutations([1, 3, 6]):
            self.assertEqual(number_of([1, 2, 3], [5, 6], 3, list(row)), 6)
            self.assertEqual(number_of([3, 2, 1], [6, 5], 3, list(row + row) + [6, 6]), 6)


class Refusals(Choices):
    def test_no_slip(self):
        for slip in NO_SLIPS:
            self.assert_refused(BadNumber, *asked([1], [2], slip))
        for slip in range(1, 13):
            self.assertEqual([call() for call in asked([1], [2], slip)], [1, [1], 0])

    def test_a_boat_without_timbers(self):
        for others in ([], [1], [1, 2, 3]):
            self.assert_refused(BadFleet, *asked([], others, 5))

    def test_a_boat_of_more_than_the_slip(self):
        for slip in range(1, 13):
            boat = list(range(1, slip + 1))
            self.assert_refused(BadFleet, *asked(boat + [60], [59], slip, 0, boat))
            # A timber that stands there twice counts once.
            self.assertEqual(choice(boat + boat, [59], slip, choices(boat + [1], [59], slip) - 1), boat)

    def test_a_timber_among_the_others(self):
        for others in ([3], [9, 3], [1, 2, 3], [2, 2], [9, 8, 7, 1]):
            self.assert_refused(BadFleet, *asked([1, 2, 3], others, 5))
        self.assertEqual(choices([1, 2, 3], [4], 3), 7)

    def test_which_one_goes_first(self):
        for slip in NO_SLIPS:
            for boat, others in (([], []), ([1, 2], [2]), (list(range(1, 15)), [])):
                self.assert_refused(BadNumber, *asked(boat, others, slip, -1, []))
            self.assert_refused(BadNumber, *asked([1], [2], slip, BIG, [BIG])[1:])
        for boat, others in (([], []), ([1, 2], [2]), ([1, 2, 3, 4], []), ([1, 2, 3, 4], [1])):
            self.assert_refused(BadFleet, *asked(boat, others, 3, -1, []))
            self.assert_refused(BadFleet, *asked(boat, others, 3, BIG, [BIG]))

    def test_no_number_of_a_choice(self):
        for number in (-1, -2, 7, 8, BIG, -BIG):
            self.assert_refused(NoChoice, lambda: choice([1, 2, 3], [4], 3, number))
        self.assertEqual(choice([1, 2, 3], [4], 3, 6), [1, 2, 3])
        self.assertEqual(choice([1, 2, 3], [4], 3, 0), [1, 2])


class TheLists(Choices):
    def test_those_handed_in_stay(self):
        boat, others, next_boat = [9, 2, 9, 4], [7, 1, 7], [7, 4, 9, 9]
        for _ in range(2):
            self.assertEqual(choice(boat, others, 5, number_of(boat, others, 5, next_boat)), [4, 7, 9])
            self.assertEqual(choices(boat, others, 5), len(all_choices(boat, others, 5)))
            self.assertEqual((boat, others, next_boat), ([9, 2, 9, 4], [7, 1, 7], [7, 4, 9, 9]))

    def test_those_told_may_be_changed(self):
        boat, others = [1, 2, 3], [5, 6]
        last = choices(boat, others, 5) - 1
        for _ in range(2):
            told = choice(boat, others, 5, last)
            self.assertEqual(told, [1, 2, 3, 5, 6])
            told.clear()
            self.assertEqual((boat, others), ([1, 2, 3], [5, 6]))
        whole = choice([1], [], 1, 0)
        whole.append(9)
        self.assertEqual(choice([1], [], 1, 0), [1])

    def test_lists_changed_behind_a_call(self):
        boat, others = [1, 2, 3], [5, 6]
        self.assertEqual(choices(boat, others, 4), len(all_choices([1, 2, 3], [5, 6], 4)))
        boat.append(8)
        others.remove(5)
        self.assertEqual(choices(boat, others, 4), len(all_choices([1, 2, 3, 8], [6], 4)))
        self.assertEqual(choice(boat, others, 4, 0), [1, 2, 3])
        boat[0] = 30
        self.assertEqual(choice(boat, others, 4, 0), [2, 3, 8])
        self.assertEqual(number_of(boat, others, 4, [3, 8, 30]), 3)
        others.append(30)
        self.assert_refused(BadFleet, *asked(boat, others, 4))


if __name__ == "__main__":
    unittest.main()

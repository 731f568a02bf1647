"""Point 10, by the yard and by argosy/chains.py, and its interface."""

import itertools
import random
import unittest

from argosy.chains import judged
from argosy.yard import Yard
from tests.plain import BIG, some_fact, timbers, yard_of

LOOSE, LOST = ("loose",), ("lost",)


def entered_on(yard, *days_and_facts):
    return [yard.enter(day, fact) for day, fact in days_and_facts]


class Chains(unittest.TestCase):
    def test_of_its_founding(self):
        yard = yard_of([(3, 1, 2), (9,)])
        self.assertEqual(yard.chain(20), [(2, (1, 2, 3))])
        self.assertEqual(yard.chain(21), [(2, (9,))])

    def test_of_later_days_with_other_timbers(self):
        yard = yard_of([(3, 1, 2)])
        entered_on(
            yard, (5, ("refit", (20,), ((2, 1, 7),))), (9, ("storm", (1,))), (20, ("refit", (20,), ((7, 2, 30),))))
        self.assertEqual(yard.chain(20), [(2, (1, 2, 3)), (5, (1, 2, 7)), (9, (2, 7)), (20, (2, 7, 30))])

    def test_not_of_days_with_the_same_timbers(self):
        yard = yard_of([(3, 1, 2), (4, 5)])
        entered_on(
            yard, (4, ("refit", (20,), ((2, 3, 1),))), (5, ("refit", (21, 20), ((1, 2, 3), (5, 4, 9)))),
            (6, ("storm", (50,))), (7, ("lend", 20, 5)), (8, ("find", (50,))), (9, ("fell", 1)), (10, ("storm", (9,))))
        self.assertEqual(yard.chain(20), [(2, (1, 2, 3))])
        self.assertEqual(yard.chain(21), [(2, (4, 5)), (5, (4, 5, 9)), (10, (4, 5))])

    def test_not_of_idle_days(self):
        yard = yard_of([(3, 1, 2)], 9)
        words = entered_on(yard, (4, ("refit", (20,), ((1, 2, 60),))), (5, ("storm", (1, 60))), (6, ("pay", 20, 1)))
        self.assertEqual(words, ["nothere", "nothere", "toomuch"])
        self.assertEqual(yard.chain(20), [(2, (1, 2, 3))])

    def test_going_down_stands_not_in_it(self):
        yard = yard_of([(3, 1, 2), (4, 5, 6)])
        entered_on(yard, (5, ("refit", (20,), ((1, 9),))), (8, ("storm", (4, 5))))
        self.assertEqual(yard.chain(20), [(2, (1, 2, 3))])
        self.assertEqual(yard.chain(21), [(2, (4, 5, 6))])
        self.assertEqual((yard.down(20), yard.down(21), yard.down(50)), (5, 8, None))
        self.assertEqual(yard.chain(50), [(5, (1, 9))])

    def test_back_to_the_first_timbers(self):
        yard = yard_of([(1, 2, 3)])
        entered_on(yard, (3, ("refit", (20,), ((1, 2, 4),))), (4, ("refit", (20,), ((1, 2, 3),))))
        self.assertEqual(yard.chain(20), [(2, (1, 2, 3)), (3, (1, 2, 4)), (4, (1, 2, 3))])


class Lines(unittest.TestCase):
    def test_of_its_felling(self):
        yard = Yard(12)
        entered_on(yard, (4, ("fell", 1)), (9, ("fell", 2)))
        self.assertEqual([yard.line(one) for one in (1, 2, 3)], [[(4, LOOSE)], [(9, LOOSE)], [(9, LOOSE)]])

    def test_behind_refits_storms_and_finds(self):
        yard = yard_of([(1, 2, 3), (4, 5)], 9)
        entered_on(
            yard, (3, ("refit", (20, 21), ((1, 2, 3, 4),))), (5, ("storm", (1, 9, 5))), (6, ("find", (1,))),
            (7, ("refit", (20,), ((1, 2),))), (8, ("refit", (70,), ())), (11, ("storm", (2,))))
        made = [(1, LOOSE), (2, ("boat", 20))]
        self.assertEqual(yard.line(1), made + [(5, LOST), (6, LOOSE), (7, ("boat", 70)), (8, LOOSE)])
        self.assertEqual(yard.line(2), made + [(7, ("boat", 70)), (8, LOOSE), (11, LOST)])
        self.assertEqual(yard.line(3), made + [(7, LOOSE)])
        self.assertEqual(yard.line(4), [(1, LOOSE), (2, ("boat", 21)), (3, ("boat", 20)), (7, LOOSE)])
        self.assertEqual(yard.line(5), [(1, LOOSE), (2, ("boat", 21)), (3, LOOSE), (5, LOST)])
        self.assertEqual(yard.line(6), [(1, LOOSE)])
        self.assertEqual(yard.line(9), [(1, LOOSE), (5, LOST)])

    def test_a_boat_that_goes_on_is_the_same_place(self):
        yard = yard_of([(1, 2, 3)])
        entered_on(yard, (3, ("refit", (20,), ((1, 2, 4),))), (4, ("refit", (20,), ((1, 2, 4),))), (5, ("storm", (4,))))
        self.assertEqual(yard.line(1), [(1, LOOSE), (2, ("boat", 20))])
        self.assertEqual(yard.line(3), [(1, LOOSE), (2, ("boat", 20)), (3, LOOSE)])
        self.assertEqual(yard.line(4), [(1, LOOSE), (3, ("boat", 20)), (5, LOST)])

    def test_another_boat_of_the_very_same_timbers_is_another_place(self):
        yard = yard_of([(1, 2), (3, 4)])
        entered_on(yard, (3, ("refit", (20, 21), ((1, 3), (2, 4)))), (4, ("refit", (30, 31), ((1, 2), (3, 4)))))
        self.assertEqual(yard.line(1), [(1, LOOSE), (2, ("boat", 20)), (3, ("boat", 30)), (4, ("boat", 40))])
        self.assertEqual(yard.line(4), [(1, LOOSE), (2, ("boat", 21)), (3, ("boat", 31)), (4, ("boat", 41))])

    def test_a_boat_that_goes_down_in_a_storm(self):
        yard = yard_of([(1, 2, 3, 4)])
        entered_on(yard, (3, ("storm", (1, 2))))
        self.assertEqual(yard.line(1), [(1, LOOSE), (2, ("boat", 20)), (3, LOST)])
        self.assertEqual(yard.line(4), [(1, LOOSE), (2, ("boat", 20)), (3, LOOSE)])

    def test_idle_facts_and_money_leave_no_trace(self):
        yard = yard_of([(1, 2, 3)], 9)
        words = entered_on(
            yard, (3, ("lend", 20, 5)), (4, ("pay", 20, 5)), (5, ("clear", 5)), (6, ("storm", (4, 60))), (7, ("find", (4,))),
            (8, ("refit", (20,), ((1, 60),))))
        self.assertEqual(words, ["good", "good", "nothing", "nothere", "nothere", "nothere"])
        self.assertEqual(yard.line(1), [(1, LOOSE), (2, ("boat", 20))])
        self.assertEqual(yard.line(4), [(1, LOOSE)])


class Judged(unittest.TestCase):
    def assert_judged(self, wished, chain, slip=12):
        ahead = list(chain)
        self.assertIs(judged(slip, chain), wished, (slip, chain))
        self.assertEqual(chain, ahead)

    def test_one_pair_or_more(self):
        self.assert_judged(False, [])
        self.assert_judged(True, [(1, (1,))])
        self.assert_judged(True, [(1, (1,)), (2, (1,))])
        self.assert_judged(True, [(2, (1, 2, 3)), (5, (1, 2, 7)), (9, (2, 7)), (20, (2, 7, 30))])

    def test_all_of_them_being_days(self):
        for day in (1, 2, 399, 400):
            self.assert_judged(True, [(day, (1,))])
        for day in (0, -1, 401, 402, BIG, -BIG):
            self.assert_judged(False, [(day, (1,))])
        self.assert_judged(True, [(1, (1,)), (400, (1,))])
        self.assert_judged(False, [(0, (1,)), (400, (1,))])
        self.assert_judged(False, [(1, (1,)), (401, (1,))])
        self.assert_judged(False, [(-5, (1,)), (1, (1,)), (400, (1,))])
        self.assert_judged(False, [(1, (1,)), (400, (1,)), (BIG, (1,))])

    def test_the_days_rise(self):
        self.assert_judged(True, [(3, (1,)), (4, (1,)), (9, (1,))])
        self.assert_judged(False, [(3, (1,)), (3, (1,))])
        self.assert_judged(False, [(4, (1,)), (3, (1,))])
        self.assert_judged(False, [(3, (1,)), (9, (1,)), (4, (1,))])
        self.assert_judged(False, [(3, (1,)), (4, (1,)), (4, (1,))])
        self.assert_judged(False, [(3, (1,)), (4, (1,)), (3, (1,))])

    def test_one_timber_to_as_many_as_the_slip(self):
        for slip in range(1, 13):
            for many in range(15):
                wished = 1 <= many <= slip
                self.assert_judged(wished, [(1, timbers(many))], slip)
                self.assert_judged(wished, [(1, timbers(many)), (2, timbers(many))], slip)
        self.assert_judged(False, [(1, (1, 2)), (2, (1, 2, 3))], 2)
        self.assert_judged(False, [(1, (1, 2, 3)), (2, (1, 2))], 2)
        self.assert_judged(False, [(1, (1, 2)), (2, ())], 2)
        self.assert_judged(False, [(1, ()), (2, (1, 2))], 2)

    def test_a_slip_somewhat_beyond_its_bounds(self):
        self.assert_judged(False, [(1, (1,))], 0)
        self.assert_judged(True, [(1, timbers(13))], 13)

    def test_numbers_from_one_to_sixty(self):
        for timber in (1, 2, 59, 60):
            self.assert_judged(True, [(1, (timber,))])
        for timber in (0, -1, 61, 62, BIG, -BIG):
            self.assert_judged(False, [(1, (timber,))])
        self.assert_judged(True, [(1, (1, 60))])
        self.assert_judged(False, [(1, (0, 1, 60))])
        self.assert_judged(False, [(1, (1, 60, 61))])
        self.assert_judged(False, [(1, (1, 2, 3)), (2, (1, 2, 3, 61))])
        self.assert_judged(False, [(1, (1, 2, 3)), (2, (-1, 1, 2, 3))])

    def test_the_timbers_rise(self):
        for row in itertools.permutations((3, 17, 60)):
            self.assert_judged(row == (3, 17, 60), [(1, row)])
            self.assert_judged(row == (3, 17, 60), [(1, (3, 17, 60)), (2, row)])
        for row in ((1, 1), (1, 2, 2), (1, 1, 2), (5, 5, 5)):
            self.assert_judged(False, [(1, row)])

    def test_the_same_boat_as_the_one_ahead(self):
        for half in range(1, 7):
            boat = timbers(2 * half)
            for other, wished in ((boat[:half], False), (boat[:half + 1], True), (boat[half - 1:], True), (boat[half:], False)):
                self.assert_judged(wished, [(1, boat), (2, other)])
                self.assert_judged(wished, [(1, other), (2, boat)])
                self.assert_judged(wished, [(1, boat), (2, boat), (3, other)])
                self.assert_judged(wished, [(1, other), (2, boat), (3, boat)])

    def test_not_as_the_first_one(self):
        self.assert_judged(True, [(1, (1, 2, 3)), (2, (2, 3, 4)), (3, (3, 4, 5)), (4, (4, 5, 6))])
        self.assert_judged(False, [(1, (1, 2, 3)), (2, (4, 5, 6)), (3, (1, 2, 3))])

    def test_the_other_way_about(self):
        boats = [row for many in range(1, 5) for row in itertools.combinations((1, 2, 3, 4), many)]
        for row in itertools.product(boats, repeat=3):
            chain = [(day, boat) for day, boat in zip((3, 8, 400), row)]
            about = [(day, boat) for day, boat in zip((1, 2, 3), row[::-1])]
            wished = all(2 * len(set(one) & set(two)) > max(len(one), len(two)) for one, two in zip(row, row[1:]))
            self.assert_judged(wished, chain)
            self.assert_judged(wished, about)

    def test_chains_that_a_yard_tells(self):
        many = 0
        for seed in range(200, 212):
            chance = random.Random(seed)
            yard = Yard(1 + seed % 12)
            for day in range(1, 150):
                yard.enter(day, some_fact(chance, yard))
            for name in yard.names():
                chain = yard.chain(name)
                self.assert_judged(True, chain, yard.slip())
                many += len(chain) > 2
                days = [day for day, _ in chain]
                self.assert_judged(True, list(zip(days, [boat for _, boat in chain][::-1])), yard.slip())
        self.assertGreater(many, 20)


if __name__ == "__main__":
    unittest.main()

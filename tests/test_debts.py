"""Point 9, by the yard, and argosy/debts.py by itself."""

import random
import unittest
from fractions import Fraction

from argosy.debts import Debts
from argosy.yard import Yard
from tests.plain import entered, some_fact, timbers, yard_of


class Told(unittest.TestCase):
    def assert_words(self, yard, facts, wished):
        self.assertEqual(entered(yard, facts), wished)

    def assert_good(self, yard, *facts):
        self.assert_words(yard, facts, ["good"] * len(facts))

    def assert_balanced(self, yard):
        """All that is owed together is what is owed on each, and what was lent less what was paid and cleared."""
        each = [yard.owed(name) for name in yard.names()]
        each += [yard.owed_on(timber) for timber in range(1, yard.felled() + 1)]
        for top, bottom in each:
            self.assertGreaterEqual(top, 0)
        self.assertEqual(Fraction(*yard.owed_all()), sum(Fraction(*one) for one in each))
        self.assertEqual(Fraction(*yard.owed_all()), yard.lent() - Fraction(*yard.paid()))

    def assert_owed(self, yard, names, loose):
        """What is owed on these names and on these timbers, and on nothing else."""
        on_names = {name: yard.owed(name) for name in yard.names() if yard.owed(name) != (0, 1)}
        on_timbers = {one: yard.owed_on(one) for one in range(1, yard.felled() + 1) if yard.owed_on(one) != (0, 1)}
        self.assertEqual((on_names, on_timbers), (names, loose))
        self.assert_balanced(yard)


class LentAndPaid(Told):
    def test_lent(self):
        yard = yard_of([(1, 2), (3,)])
        self.assert_good(yard, ("lend", 20, 10), ("lend", 21, 1), ("lend", 20, 5))
        self.assert_owed(yard, {20: (15, 1), 21: (1, 1)}, {})
        self.assertEqual((yard.owed_all(), yard.lent(), yard.paid()), ((16, 1), 16, (0, 1)))

    def test_paid_in_full_and_one_coin_too_many(self):
        yard = yard_of([(1, 2), (3,)])
        self.assert_words(yard, [("pay", 20, 1)], ["toomuch"])
        self.assert_good(yard, ("lend", 20, 10), ("lend", 21, 7))
        self.assert_words(yard, [("pay", 20, 11), ("pay", 20, 4), ("pay", 20, 7)], ["toomuch", "good", "toomuch"])
        self.assert_owed(yard, {20: (6, 1), 21: (7, 1)}, {})
        self.assert_words(yard, [("pay", 20, 6), ("pay", 20, 1)], ["good", "toomuch"])
        self.assert_owed(yard, {21: (7, 1)}, {})
        self.assertEqual((yard.owed_all(), yard.lent(), yard.paid()), ((7, 1), 17, (10, 1)))

    def test_what_is_owed_on_another_name_does_not_count(self):
        yard = yard_of([(1, 2), (3,)])
        self.assert_good(yard, ("lend", 21, 100))
        self.assert_words(yard, [("pay", 20, 1)], ["toomuch"])

    def test_no_boat(self):
        yard = yard_of([(1, 2), (3,)])
        self.assert_good(yard, ("lend", 20, 10), ("lend", 21, 10), ("refit", (21,), ()))
        for name in (10, 19, 21, 22, 50, 4007):
            self.assert_words(yard, [("lend", name, 1), ("pay", name, 1)], ["noboat", "noboat"])
        self.assert_owed(yard, {20: (10, 1)}, {3: (10, 1)})

    def test_noboat_goes_ahead_of_toomuch(self):
        yard = yard_of([(1, 2)])
        self.assert_words(yard, [("pay", 21, 10 ** 6)], ["noboat"])

    def test_a_million_coins_over_and_over(self):
        yard = yard_of([(1, 2, 3)])
        self.assert_good(yard, *[("lend", 20, 10 ** 6)] * 300)
        self.assert_owed(yard, {20: (3 * 10 ** 8, 1)}, {})
        self.assertEqual(yard.lent(), 3 * 10 ** 8)


class GoneDown(Told):
    def test_parted_evenly(self):
        yard = yard_of([(1, 2, 3), (4, 5)])
        self.assert_good(yard, ("lend", 20, 10), ("lend", 21, 10), ("refit", (20,), ()))
        self.assert_owed(yard, {21: (10, 1)}, {1: (10, 3), 2: (10, 3), 3: (10, 3)})
        self.assertEqual(yard.owed(20), (0, 1))
        self.assert_good(yard, ("refit", (21,), ()))
        self.assert_owed(yard, {}, {1: (10, 3), 2: (10, 3), 3: (10, 3), 4: (5, 1), 5: (5, 1)})
        self.assertEqual((yard.owed_all(), yard.lent(), yard.paid()), ((20, 1), 20, (0, 1)))

    def test_on_all_timbers_that_the_boat_had_ahead(self):
        for many in range(1, 13):
            for left in range(many // 2 + 1):
                yard = yard_of([timbers(many)], 20)
                self.assert_good(yard, ("lend", 20, 1), ("storm", timbers(many)[left:]))
                self.assert_owed(yard, {}, {timber: (1, many) for timber in timbers(many)})
                self.assertEqual((yard.loose()[:left], yard.lost()), (list(timbers(left)), list(timbers(many)[left:])))

    def test_on_those_it_has_then_and_not_its_first_ones(self):
        yard = yard_of([(1, 2, 3)])
        self.assert_good(yard, ("lend", 20, 8), ("refit", (20,), ((2, 3, 4, 5, 1),)), ("storm", (1,)))
        self.assert_good(yard, ("refit", (20,), ()))
        self.assert_owed(yard, {}, {2: (2, 1), 3: (2, 1), 4: (2, 1), 5: (2, 1)})

    def test_with_nothing_owed(self):
        yard = yard_of([(1, 2, 3)])
        self.assert_good(yard, ("lend", 20, 8), ("pay", 20, 8), ("refit", (20,), ()))
        self.assert_owed(yard, {}, {})
        self.assert_words(yard, [("clear", 1)], ["nothing"])

    def test_a_boat_that_goes_on_keeps_its_debt(self):
        yard = yard_of([(1, 2, 3)])
        self.assert_good(yard, ("lend", 20, 10), ("refit", (20,), ((1, 2, 4),)), ("storm", (4,)))
        self.assert_owed(yard, {20: (10, 1)}, {})

    def test_added_to_what_is_owed_on_a_timber(self):
        # Debts lie on loose and lost timbers alone: those of a boat that goes down bear its own share.
        yard = yard_of([(1, 2)])
        self.assert_good(yard, ("lend", 20, 3), ("refit", (20,), ()), ("refit", (), ((1, 2, 3, 4),)), ("lend", 50, 2))
        self.assert_owed(yard, {50: (5, 1)}, {})
        self.assert_good(yard, ("refit", (50,), ()))
        self.assert_owed(yard, {}, {1: (5, 4), 2: (5, 4), 3: (5, 4), 4: (5, 4)})


class TakenOver(Told):
    def test_by_a_boat_that_is_founded(self):
        yard = yard_of([(1, 2, 3)])
        self.assert_good(yard, ("lend", 20, 10), ("refit", (20,), ()), ("refit", (), ((2, 1, 9), (8,))))
        self.assert_owed(yard, {50: (20, 3)}, {3: (10, 3)})

    def test_by_a_boat_that_goes_on(self):
        yard = yard_of([(1, 2, 3), (4, 5)])
        self.assert_good(yard, ("lend", 20, 1), ("lend", 21, 10), ("refit", (21,), ()), ("refit", (20,), ((1, 2, 3, 5),)))
        self.assert_owed(yard, {20: (6, 1)}, {4: (5, 1)})

    def test_in_the_deed_in_which_a_name_goes_down(self):
        yard = yard_of([(1, 2, 3), (4, 5)])
        self.assert_good(yard, ("lend", 21, 10), ("refit", (20, 21), ((4, 1, 2, 3),)))
        self.assertEqual(yard.boats(), [20])
        self.assert_owed(yard, {20: (5, 1)}, {5: (5, 1)})

    def test_in_the_deed_in_which_several_go_down(self):
        yard = yard_of([(1, 2, 3, 4), (5, 6)])
        self.assert_good(yard, ("lend", 20, 12), ("lend", 21, 5), ("refit", (20, 21), ((1, 5), (2,), (6, 3, 7))))
        self.assertEqual(yard.boats(), [50, 51, 52])
        self.assert_owed(yard, {50: (11, 2), 51: (3, 1), 52: (11, 2)}, {4: (3, 1)})

    def test_the_very_same_timbers_bear_the_whole_debt(self):
        yard = yard_of([timbers(7)])
        self.assert_good(yard, ("lend", 20, 10), ("refit", (20,), ()), ("refit", (), (timbers(7),)))
        self.assert_owed(yard, {50: (10, 1)}, {})

    def test_a_boat_with_the_same_timbers_owes_the_same(self):
        yard = yard_of([(1, 2, 3)])
        self.assert_good(yard, ("lend", 20, 10), ("refit", (20,), ((3, 2, 1),)))
        self.assert_owed(yard, {20: (10, 1)}, {})

    def test_parts_of_parts(self):
        yard = yard_of([(1, 2, 3)])
        self.assert_good(yard, ("lend", 20, 10), ("refit", (20,), ()), ("refit", (), ((1, 7),)), ("refit", (50,), ()))
        self.assert_owed(yard, {}, {1: (5, 3), 7: (5, 3), 2: (10, 3), 3: (10, 3)})
        self.assert_good(yard, ("refit", (), ((1, 2, 8, 9, 10),)), ("refit", (70,), ((8,),)))
        self.assert_owed(yard, {80: (1, 1)}, {1: (1, 1), 2: (1, 1), 9: (1, 1), 10: (1, 1), 7: (5, 3), 3: (10, 3)})

    def test_pay_where_a_part_of_a_coin_is_owed(self):
        yard = yard_of([(1, 2, 3)])
        self.assert_good(yard, ("lend", 20, 10), ("refit", (20,), ()), ("refit", (), ((1,),)))
        self.assert_owed(yard, {50: (10, 3)}, {2: (10, 3), 3: (10, 3)})
        self.assert_words(yard, [("pay", 50, 4), ("pay", 50, 3), ("pay", 50, 1)], ["toomuch", "good", "toomuch"])
        self.assert_owed(yard, {50: (1, 3)}, {2: (10, 3), 3: (10, 3)})
        self.assertEqual(yard.paid(), (3, 1))

    def test_lend_where_a_part_of_a_coin_is_owed(self):
        yard = yard_of([(1, 2, 3)])
        self.assert_good(yard, ("lend", 20, 10), ("refit", (20,), ()), ("refit", (), ((1,),)), ("lend", 50, 2))
        self.assert_owed(yard, {50: (16, 3)}, {2: (10, 3), 3: (10, 3)})
        self.assertEqual(yard.lent(), 12)


class LostAndFound(Told):
    def test_a_debt_stays_on_its_timber(self):
        yard = yard_of([(1, 2, 3)])
        self.assert_good(yard, ("lend", 20, 10), ("storm", (1, 2)))
        thirds = {1: (10, 3), 2: (10, 3), 3: (10, 3)}
        self.assert_owed(yard, {}, thirds)
        self.assert_good(yard, ("storm", (3,)))
        self.assert_owed(yard, {}, thirds)
        self.assert_good(yard, ("find", (2, 3)))
        self.assert_owed(yard, {}, thirds)
        self.assert_good(yard, ("refit", (), ((2, 3, 9),)))
        self.assert_owed(yard, {70: (20, 3)}, {1: (10, 3)})

    def test_a_timber_lost_from_a_boat_that_goes_on_bears_nothing(self):
        yard = yard_of([(1, 2, 3)])
        self.assert_good(yard, ("lend", 20, 10), ("storm", (1,)), ("find", (1,)))
        self.assert_owed(yard, {20: (10, 1)}, {})
        self.assert_words(yard, [("clear", 1)], ["nothing"])


class Cleared(Told):
    def test_on_loose_and_on_lost_timbers(self):
        yard = yard_of([(1, 2, 3)])
        self.assert_good(yard, ("lend", 20, 10), ("storm", (1, 2)), ("clear", 1))
        self.assert_owed(yard, {}, {2: (10, 3), 3: (10, 3)})
        self.assertEqual((yard.owed_all(), yard.paid(), yard.lent()), ((20, 3), (10, 3), 10))
        self.assert_words(yard, [("clear", 1), ("clear", 3), ("clear", 3)], ["nothing", "good", "nothing"])
        self.assert_owed(yard, {}, {2: (10, 3)})
        self.assertEqual((yard.owed_all(), yard.paid(), yard.lent()), ((10, 3), (20, 3), 10))
        self.assert_good(yard, ("clear", 2))
        self.assertEqual((yard.owed_all(), yard.paid(), yard.lent()), ((0, 1), (10, 1), 10))

    def test_where_it_isnt_felled_or_lies_in_a_boat(self):
        yard = yard_of([(1, 2, 3), (4,)], 9)
        self.assert_good(yard, ("lend", 20, 10), ("refit", (21,), ()))
        self.assert_words(yard, [("clear", one) for one in (1, 2, 3, 10, 60)], ["nothere"] * 5)
        self.assert_words(yard, [("clear", one) for one in (4, 5, 9)], ["nothing"] * 3)
        self.assert_owed(yard, {20: (10, 1)}, {})

    def test_what_was_taken_over_is_owed_on_the_timber_no_more(self):
        yard = yard_of([(1, 2)])
        self.assert_good(yard, ("lend", 20, 10), ("refit", (20,), ()), ("refit", (), ((1,),)))
        self.assert_words(yard, [("clear", 1), ("clear", 2)], ["nothere", "good"])
        self.assert_owed(yard, {50: (5, 1)}, {})

    def test_on_a_timber_that_was_parted_on_twice(self):
        yard = yard_of([(1, 2)])
        self.assert_good(yard, ("lend", 20, 10), ("refit", (20,), ()), ("clear", 1), ("refit", (), ((1, 2, 3),)))
        self.assert_good(yard, ("refit", (60,), ()))
        self.assert_owed(yard, {}, {1: (5, 3), 2: (5, 3), 3: (5, 3)})


class ByLot(Told):
    def test_balanced_behind_each_fact(self):
        for seed in range(100, 112):
            chance = random.Random(seed)
            yard = Yard(1 + seed % 12)
            for day in range(1, 120):
                yard.enter(day, some_fact(chance, yard))
                self.assert_balanced(yard)
                # Things are owed on loose and on lost timbers alone.
                for timber in range(1, yard.felled() + 1):
                    if yard.place(timber)[0] == "boat":
                        self.assertEqual(yard.owed_on(timber), (0, 1))
            self.assertGreater(yard.lent(), 0)

    def test_long_bottoms(self):
        """Every day all boats go down, into boats of unlike sizes: what is owed on them has long bottoms."""
        chance = random.Random(7)
        yard = Yard(12)
        yard.enter(1, ("fell", 60))
        for day in range(2, 401):
            fact = ("lend", chance.choice(yard.boats() or [10]), chance.randint(1, 10 ** 6))
            if day % 10:
                order = chance.sample(range(1, 61), 60)
                sets = tuple(tuple(order[first:first + many]) for first, many in ((0, 7), (7, 11), (18, 9), (27, 5), (32, 8)))
                fact = ("refit", tuple(yard.boats()), sets)
            self.assertEqual(yard.enter(day, fact), "good")
        self.assert_balanced(yard)
        self.assertEqual(yard.owed_all(), (yard.lent(), 1))
        self.assertGreater(max(yard.owed(name)[1] for name in yard.boats()), 10 ** 100)


class ByThemselves(unittest.TestCase):
    def test_lent_parted_taken_over_settled(self):
        debts = Debts()
        debts.lend(5, 10)
        debts.part(5, [1, 2, 3])
        debts.lend(6, 1)
        debts.part(6, [2, 3])
        told = [debts.owed(5), debts.owed(6)] + [debts.owed_on(timber) for timber in (1, 2, 3, 4)]
        self.assertEqual(told, [(0, 1), (0, 1), (10, 3), (23, 6), (23, 6), (0, 1)])
        debts.take_over(7, [1, 2, 4])
        self.assertEqual((debts.owed(7), debts.owed_on(1), debts.owed_on(3)), ((43, 6), (0, 1), (23, 6)))
        self.assertEqual([debts.is_too_much(7, coins) for coins in (7, 8)], [False, True])
        debts.pay(7, 7)
        debts.settle(3)
        self.assertEqual((debts.owed_all(), debts.lent(), debts.paid()), ((1, 6), 11, (65, 6)))

    def test_where_nothing_is_owed(self):
        debts = Debts()
        debts.part(5, [1, 2, 3])
        debts.part(7, [9])
        debts.settle(8)
        self.assertEqual([debts.is_too_much(5, coins) for coins in (1, 2, 10 ** 6)], [True] * 3)
        debts.take_over(6, [1, 4])
        told = [debts.owed(5), debts.owed(6), debts.owed_on(1), debts.owed_on(3), debts.owed_on(9), debts.owed_all()]
        self.assertEqual(told, [(0, 1)] * 6)
        self.assertEqual((debts.lent(), debts.paid()), (0, (0, 1)))

    def test_shares_are_made_no_smaller_than_is_needed(self):
        debts = Debts()
        debts.lend(5, 12)
        debts.part(5, [1, 2, 3, 4])
        self.assertEqual(debts.shares, 1)
        debts.lend(6, 10)
        debts.part(6, [1, 2, 3, 4])
        self.assertEqual(debts.shares, 2)
        debts.part(7, [1, 2, 3, 4, 5, 6, 7])
        self.assertEqual(debts.shares, 2)

    def test_what_was_paid_ahead_of_a_parting_stays_paid(self):
        debts = Debts()
        debts.lend(5, 10)
        debts.pay(5, 3)
        debts.part(5, [1, 2])
        self.assertEqual((debts.paid(), debts.owed_all(), debts.owed_on(1)), ((3, 1), (7, 1), (7, 2)))

    def test_a_twin_goes_its_own_way(self):
        debts = Debts()
        debts.lend(5, 10)
        debts.lend(6, 11)
        debts.pay(6, 1)
        debts.part(5, [1, 2, 3])
        twin = debts.twin()

        def told(one):
            return ([one.owed(name) for name in (5, 6, 7)], [one.owed_on(timber) for timber in (1, 2, 3, 4)],
                    one.owed_all(), one.lent(), one.paid())

        ahead = told(debts)
        self.assertEqual(told(twin), ahead)
        twin.lend(6, 1)
        twin.pay(6, 2)
        twin.settle(1)
        twin.part(6, [3, 4])
        twin.take_over(7, [2])
        self.assertEqual(told(debts), ahead)
        self.assertEqual(told(twin), ([(0, 1), (0, 1), (10, 3)], [(0, 1), (0, 1), (47, 6), (9, 2)], (47, 3), 22, (19, 3)))


if __name__ == "__main__":
    unittest.main()

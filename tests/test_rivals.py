"""Points 1, 2 and 11 and the interface's section argosy/rivals.py."""

import random
import unittest

from argosy.errors import ArgosyError, NoName
from argosy.rivals import gathered, quarrels
from argosy.yard import Yard
from tests.plain import BIG, entered, some_fact, timbers, told, yard_of


class Rivals(unittest.TestCase):
    def assert_gathered(self, yard, name, wished):
        answer = gathered(yard, name)
        self.assertEqual(answer, wished)
        self.assertIs(type(answer), type(wished))

    def assert_quarrels(self, yard, wished):
        answer = quarrels(yard)
        self.assertIs(type(answer), list)
        self.assertEqual(answer, wished)
        for pair in answer:
            self.assertIs(type(pair), tuple)
            self.assertEqual([type(name) for name in pair], [int, int])

    def assert_good(self, yard, *facts):
        self.assertEqual(entered(yard, facts), ["good"] * len(facts))


class Gathered(Rivals):
    def test_a_boat_has_gathered_its_own_name_when_it_is_founded(self):
        yard = yard_of([(1, 2, 3), (4,)])
        self.assert_gathered(yard, 20, 20)
        self.assert_gathered(yard, 21, 21)
        self.assert_quarrels(yard, [])

    def test_just_half_and_one_more(self):
        for half in range(1, 6):
            boat = timbers(2 * half)
            for many, wished in ((half - 1, None), (half, None), (half + 1, 40)):
                yard = yard_of([boat])
                self.assert_good(yard, ("refit", (20,), ()), ("refit", (), (boat[:many] + (60,),)))
                self.assert_gathered(yard, 20, wished)
                self.assert_quarrels(yard, [] if wished is None else [(20, 40)])

    def test_about_the_half_of_odd_first_timbers(self):
        for many, wished in ((1, None), (2, None), (3, 40), (4, 40), (5, 40)):
            yard = yard_of([timbers(5)])
            self.assert_good(yard, ("refit", (20,), ()), ("refit", (), (timbers(many),)))
            self.assert_gathered(yard, 20, wished)

    def test_the_first_timbers_count_and_not_the_gatherers(self):
        # The boat is another one by far, but has more than half of the first timbers.
        yard = yard_of([(1, 2, 3)])
        self.assert_good(yard, ("refit", (20,), ()), ("refit", (), ((1, 2) + timbers(10, 20),)))
        self.assert_gathered(yard, 20, 40)
        self.assert_gathered(yard, 40, 40)
        self.assert_quarrels(yard, [(20, 40)])

    def test_a_name_afloat_whose_first_timbers_lie_loose(self):
        yard = yard_of([(1, 2, 3)])
        self.assert_good(yard, ("refit", (20,), ((2, 3, 4),)), ("refit", (20,), ((3, 4, 5),)))
        self.assertEqual(yard.boats(), [20])
        self.assert_gathered(yard, 20, None)
        self.assert_quarrels(yard, [])

    def test_lost_and_loose_timbers_count_for_nobody(self):
        yard = yard_of([timbers(5)])
        self.assert_good(yard, ("storm", (1, 2)))
        self.assert_gathered(yard, 20, 20)
        self.assert_good(yard, ("storm", (3,)))
        self.assertEqual(yard.boats(), [20])
        self.assert_gathered(yard, 20, None)

    def test_gone_down_and_put_together_again(self):
        yard = yard_of([(1, 2, 3)])
        self.assert_good(yard, ("refit", (20,), ()))
        self.assert_gathered(yard, 20, None)
        self.assert_quarrels(yard, [])
        self.assert_good(yard, ("refit", (), ((1, 2, 3),)))
        self.assert_gathered(yard, 20, 40)
        self.assert_quarrels(yard, [(20, 40)])
        self.assert_good(yard, ("refit", (40,), ()))
        self.assert_gathered(yard, 20, None)
        self.assert_gathered(yard, 40, None)
        self.assert_quarrels(yard, [])

    def test_changed_bit_by_bit_while_its_first_timbers_are_put_together_again(self):
        yard = yard_of([(1, 2, 3)])
        self.assert_good(
            yard, ("refit", (20,), ((2, 3, 11),)), ("refit", (20,), ((3, 11, 12),)), ("refit", (20,), ((11, 12, 13),)))
        self.assert_gathered(yard, 20, None)
        self.assert_good(yard, ("refit", (), ((1, 2, 3),)))
        self.assertEqual({name: yard.boat(name) for name in yard.boats()}, {20: [11, 12, 13], 60: [1, 2, 3]})
        self.assert_gathered(yard, 20, 60)
        self.assert_gathered(yard, 60, 60)
        self.assert_quarrels(yard, [(20, 60)])

    def test_two_that_have_gathered_one_another(self):
        yard = yard_of([(1, 2, 3), (11, 12, 13)])
        self.assert_good(
            yard, ("refit", (20, 21), ((1, 2, 11), (12, 13, 3))), ("refit", (20, 21), ((1, 11, 13), (12, 3, 2))))
        self.assertEqual((yard.boat(20), yard.boat(21)), ([1, 11, 13], [2, 3, 12]))
        self.assert_gathered(yard, 20, 21)
        self.assert_gathered(yard, 21, 20)
        self.assert_quarrels(yard, [(20, 21), (21, 20)])

    def test_several_names_gathered_by_one_boat(self):
        yard = yard_of([(1, 2), (3, 4), (5, 6), (7, 8)])
        self.assert_good(yard, ("refit", (20, 21, 22), ((6, 5, 4, 3, 2, 1),)))
        self.assertEqual(yard.boats(), [23, 30])
        self.assert_quarrels(yard, [(20, 30), (21, 30), (22, 30)])
        self.assert_gathered(yard, 23, 23)

    def test_a_new_yard(self):
        self.assert_quarrels(Yard(3), [])


class NotThere(Rivals):
    def test_names_never_given(self):
        for yard in (Yard(3), yard_of([(1, 2)])):
            ahead = told(yard)
            for name in (0, 1, 2, 9, 10, 19, 21, 30, -1, -20, 4007, 4008, BIG, -BIG):
                with self.assertRaises(ArgosyError) as refused:
                    gathered(yard, name)
                self.assertIs(type(refused.exception), NoName)
            self.assertEqual(told(yard), ahead)


class NothingIsChangedOrKept(Rivals):
    def test_the_yard_stays(self):
        yard = yard_of([(1, 2, 3)])
        self.assert_good(yard, ("lend", 20, 5), ("refit", (20,), ()), ("refit", (), ((1, 2, 3),)))
        ahead = told(yard)
        row = quarrels(yard)
        gathered(yard, 20)
        row.append((1, 1))
        row[0] = None
        self.assertEqual(told(yard), ahead)
        self.assert_quarrels(yard, [(20, 50)])

    def test_by_lot(self):
        seen = 0
        for seed in range(300, 312):
            chance = random.Random(seed)
            yard = Yard(1 + seed % 12)
            for day in range(1, 120):
                yard.enter(day, some_fact(chance, yard))
                if day % 6 == 0:
                    wished = []
                    for name in yard.names():
                        first = set(yard.first(name))
                        has = [one for one in yard.boats() if len(first & set(yard.boat(one))) > len(first) // 2]
                        self.assertLessEqual(len(has), 1)
                        self.assert_gathered(yard, name, (has + [None])[0])
                        wished.extend((name, one) for one in has if one != name)
                    self.assert_quarrels(yard, wished)
                    seen += len(wished)
        self.assertGreater(seen, 50)


if __name__ == "__main__":
    unittest.main()

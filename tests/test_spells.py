"""Points 1, 2 and 18, and the interface's section argosy/spells.py."""

import random
import unittest

from argosy.diary import Diary
from argosy.errors import BadNumber
from argosy.spells import boat_spells, differs, timber_spells
from argosy.yard import Yard
from tests.plain import BIG, Refusing, diary_of, drawn_facts, kinds, told_of

NO_DAYS = (0, -1, 401, 402, -400, BIG, -BIG)
LOOSE, LOST = ("loose",), ("lost",)


def days_of(diary, last):
    """What is there on each day up to the last one, by a yard that goes on day by day: (day, boats, places)."""
    yard, facts, days = Yard(diary.slip()), dict(diary.facts()), []
    for day in range(1, last + 1):
        if day in facts:
            yard.enter(day, facts[day])
        yard.pass_to(day)
        boats = {name: tuple(yard.boat(name)) for name in yard.boats()}
        days.append((day, boats, {timber: yard.place(timber) for timber in range(1, yard.felled() + 1)}))
    return days


def grouped(things):
    """The triples (first, last, thing) of pairs of a day and a thing, which is None where there is none."""
    told = []
    for day, thing in things:
        if thing is not None and told and told[-1][1:] == (day - 1, thing):
            told[-1] = (told[-1][0], day, thing)
        elif thing is not None:
            told.append((day, day, thing))
    return told


def all_names(days):
    return sorted({name for _, boats, _ in days for name in boats})


class Spells(Refusing):
    def assert_told(self, told, wished):
        self.assertEqual(told, wished)
        self.assertEqual(kinds(told), kinds(wished))

    def assert_day_by_day(self, diary, last):
        days = days_of(diary, last)
        for name in all_names(days) + [0, -1, 9, 10, 4007, 4008, BIG, -BIG]:
            self.assert_told(boat_spells(diary, name, last), grouped((day, boats.get(name)) for day, boats, _ in days))
        for timber in list(range(-1, 63)) + [BIG, -BIG]:
            self.assert_told(
                timber_spells(diary, timber, last), grouped((day, places.get(timber)) for day, _, places in days))


class OfBoats(Spells):
    def diary(self):
        return diary_of([
            (1, ("fell", 9)), (3, ("refit", (), ((1, 2, 3), (4, 5)))), (5, ("lend", 30, 3)),
            (8, ("refit", (30,), ((2, 1, 9),))), (9, ("refit", (30,), ((9, 2, 1),))), (12, ("storm", (2,))),
            (20, ("refit", (30,), ())), (30, ("refit", (), ((1, 9),))),
        ])

    def test_up_to_each_last_day(self):
        diary = self.diary()
        self.assert_told(boat_spells(diary, 30, 400), [(3, 7, (1, 2, 3)), (8, 11, (1, 2, 9)), (12, 19, (1, 9))])
        self.assert_told(boat_spells(diary, 30, 2), [])
        self.assert_told(boat_spells(diary, 30, 3), [(3, 3, (1, 2, 3))])
        self.assert_told(boat_spells(diary, 30, 7), [(3, 7, (1, 2, 3))])
        self.assert_told(boat_spells(diary, 30, 8), [(3, 7, (1, 2, 3)), (8, 8, (1, 2, 9))])
        self.assert_told(boat_spells(diary, 31, 400), [(3, 400, (4, 5))])
        self.assert_told(boat_spells(diary, 300, 400), [(30, 400, (1, 9))])

    def test_it_goes_down_ahead_of_the_last_day_on_it_and_behind(self):
        diary = self.diary()
        for last, end in ((18, 18), (19, 19), (20, 19), (21, 19), (400, 19)):
            self.assertEqual(boat_spells(diary, 30, last)[-1], (12, end, (1, 9)))

    def test_afloat_for_a_single_day(self):
        diary = diary_of([(1, ("fell", 9)), (2, ("refit", (), ((1, 2),))), (3, ("refit", (20,), ())), (400, ("refit", (), ((5,),)))])
        self.assert_told(boat_spells(diary, 20, 400), [(2, 2, (1, 2))])
        self.assert_told(boat_spells(diary, 20, 2), [(2, 2, (1, 2))])
        self.assert_told(boat_spells(diary, 4000, 400), [(400, 400, (5,))])
        self.assert_told(boat_spells(diary, 4000, 399), [])

    def test_back_to_the_same_timbers(self):
        diary = diary_of([
            (1, ("fell", 9)), (2, ("refit", (), ((1, 2, 3),))), (4, ("refit", (20,), ((1, 2, 4),))),
            (6, ("refit", (20,), ((1, 2, 3),)))])
        self.assert_told(boat_spells(diary, 20, 9), [(2, 3, (1, 2, 3)), (4, 5, (1, 2, 4)), (6, 9, (1, 2, 3))])

    def test_names_that_are_none(self):
        diary = self.diary()
        for name in (0, -1, -30, 1, 9, 10, 32, 80, 120, 4007, 4008, BIG, -BIG):
            for last in (1, 9, 400):
                self.assert_told(boat_spells(diary, name, last), [])

    def test_a_diary_without_facts(self):
        self.assert_told(boat_spells(Diary(1), 10, 400), [])
        self.assert_told(timber_spells(Diary(1), 1, 400), [])


class OfTimbers(Spells):
    def diary(self):
        return diary_of([
            (2, ("fell", 4)), (4, ("refit", (), ((1, 2, 3),))), (6, ("refit", (40,), ((2, 3, 4),))), (7, ("fell", 1)),
            (9, ("storm", (2, 3))), (11, ("find", (3,))), (15, ("refit", (), ((3, 4),))), (16, ("refit", (150,), ((3,), (4,)))),
        ])

    def test_up_to_each_last_day(self):
        diary = self.diary()
        self.assert_told(timber_spells(diary, 1, 400), [(2, 3, LOOSE), (4, 5, ("boat", 40)), (6, 400, LOOSE)])
        self.assert_told(timber_spells(diary, 2, 400), [(2, 3, LOOSE), (4, 8, ("boat", 40)), (9, 400, LOST)])
        self.assert_told(
            timber_spells(diary, 3, 400),
            [(2, 3, LOOSE), (4, 8, ("boat", 40)), (9, 10, LOST), (11, 14, LOOSE), (15, 15, ("boat", 150)), (16, 400, ("boat", 160))])
        self.assert_told(timber_spells(diary, 5, 400), [(7, 400, LOOSE)])
        self.assert_told(timber_spells(diary, 5, 7), [(7, 7, LOOSE)])
        self.assert_told(timber_spells(diary, 5, 6), [])
        self.assert_told(timber_spells(diary, 1, 1), [])
        self.assert_told(timber_spells(diary, 1, 2), [(2, 2, LOOSE)])
        self.assert_told(timber_spells(diary, 1, 4), [(2, 3, LOOSE), (4, 4, ("boat", 40))])
        self.assert_told(timber_spells(diary, 1, 5), [(2, 3, LOOSE), (4, 5, ("boat", 40))])

    def test_timbers_that_are_none(self):
        diary = self.diary()
        for timber in (0, -1, 6, 60, 61, BIG, -BIG):
            for last in (1, 9, 400):
                self.assert_told(timber_spells(diary, timber, last), [])


class DayByDay(Spells):
    def test_drawn(self):
        for seed in range(10):
            chance = random.Random(seed)
            slip = chance.randint(1, 12)
            facts = drawn_facts(chance, slip, sorted(chance.sample(range(1, 101), 60)))
            chance.shuffle(facts)
            diary = diary_of(facts, slip)
            for last in (1, 50, chance.randint(2, 99), 100, 130):
                self.assert_day_by_day(diary, last)

    def test_all_four_hundred_days(self):
        chance = random.Random(400)
        diary = diary_of(drawn_facts(chance, 8, range(1, 401, 2)), 8)
        for last in (190, 399, 400):
            self.assert_day_by_day(diary, last)

    def test_behind_further_deeds(self):
        diary = diary_of([(1, ("fell", 9)), (5, ("refit", (), ((1, 2, 3),)))])
        self.assertEqual(boat_spells(diary, 50, 9), [(5, 9, (1, 2, 3))])
        diary.tell(7, ("storm", (1,)))
        self.assertEqual(boat_spells(diary, 50, 9), [(5, 6, (1, 2, 3)), (7, 9, (2, 3))])
        self.assertEqual(timber_spells(diary, 1, 9), [(1, 4, LOOSE), (5, 6, ("boat", 50)), (7, 9, LOST)])
        diary.strike(1)
        self.assertEqual((boat_spells(diary, 50, 9), timber_spells(diary, 1, 9)), ([], []))
        diary.undo()
        diary.undo()
        self.assertEqual(boat_spells(diary, 50, 9), [(5, 9, (1, 2, 3))])


class Differs(Spells):
    def plainly(self, one, other, day):
        here, there = days_of(one, day)[-1][1], days_of(other, day)[-1][1]
        names = sorted(set(here) | set(there))
        return [(name, here.get(name), there.get(name)) for name in names if here.get(name) != there.get(name)]

    def assert_differs(self, one, other, day, wished):
        self.assert_told(differs(one, other, day), wished)
        self.assert_told(differs(other, one, day), [(name, there, here) for name, here, there in wished])

    def test_names_afloat_in_both_and_in_one_alone(self):
        facts = [(1, ("fell", 20)), (2, ("refit", (), ((1, 2, 3), (4, 5), (6, 7))))]
        one = diary_of(facts + [(4, ("refit", (20,), ((1, 2, 9),))), (6, ("refit", (), ((10, 11),)))])
        other = diary_of(facts + [(5, ("refit", (21,), ())), (6, ("refit", (), ((12,), (13,))))])
        self.assert_differs(one, other, 1, [])
        self.assert_differs(one, other, 3, [])
        self.assert_differs(one, other, 4, [(20, (1, 2, 9), (1, 2, 3))])
        self.assert_differs(one, other, 5, [(20, (1, 2, 9), (1, 2, 3)), (21, (4, 5), None)])
        self.assert_differs(
            one, other, 400, [(20, (1, 2, 9), (1, 2, 3)), (21, (4, 5), None), (60, (10, 11), (12,)), (61, None, (13,))])

    def test_a_diary_and_itself_and_its_twin(self):
        diary = diary_of(drawn_facts(random.Random(5), 6, range(1, 60)), 6)
        for day in (1, 30, 59, 400):
            self.assert_differs(diary, diary, day, [])
            self.assert_differs(diary, diary.twin(), day, [])
        twin = diary.twin()
        twin.undo()
        for day in range(50, 70):
            self.assert_differs(diary, twin, day, self.plainly(diary, twin, day))

    def test_not_what_else_differs(self):
        facts = [(1, ("fell", 20)), (2, ("refit", (), ((1, 2, 3),)))]
        one = diary_of(facts + [(4, ("lend", 20, 5)), (5, ("storm", (9,))), (6, ("fell", 3))])
        self.assert_differs(one, diary_of(facts), 9, [])

    def test_diaries_of_two_slips(self):
        small, large = Diary(2), Diary(12)
        small.tell(1, ("fell", 9))
        large.tell(1, ("fell", 12))
        small.tell(3, ("refit", (), ((1, 2), (3,))))
        large.tell(3, ("refit", (), ((2, 1), (3, 4, 5))))
        self.assert_differs(small, large, 3, [(31, (3,), (3, 4, 5))])

    def test_drawn(self):
        many = 0
        for seed in range(12):
            chance = random.Random(seed)
            facts = drawn_facts(chance, 7, range(1, 60))
            one, other = diary_of(facts, 7), diary_of(facts, chance.choice([7, 9]))
            for day in chance.sample(range(3, 60), 3):
                other.strike(day)
            for day in (1, 10, 20, 30, 45, 59, 400):
                wished = self.plainly(one, other, day)
                many += len(wished)
                self.assert_differs(one, other, day, wished)
        self.assertGreater(many, 30)


class Refusals(Spells):
    def test_no_day(self):
        diary = diary_of([(1, ("fell", 9)), (2, ("refit", (), ((1, 2),)))])
        for day in NO_DAYS:
            for name in (20, 5, BIG):
                self.assert_refused(
                    BadNumber, lambda: boat_spells(diary, name, day), lambda: timber_spells(diary, name, day))
            self.assert_refused(BadNumber, lambda: differs(diary, Diary(3), day), lambda: differs(Diary(3), diary, day))
        for day in (1, 2, 399, 400):
            boat_spells(diary, 20, day), timber_spells(diary, 1, day), differs(diary, Diary(3), day)


class WhatIsTold(Spells):
    def test_the_diaries_stay_and_told_lists_may_be_changed(self):
        one, other = diary_of([(1, ("fell", 9)), (2, ("refit", (), ((1, 2),)))]), Diary(3)
        one.tell(5, ("storm", (1,)))
        one.undo()
        ahead = told_of(one), told_of(other)
        for _ in range(2):
            lists = [boat_spells(one, 20, 9), timber_spells(one, 1, 9), differs(one, other, 9)]
            self.assertEqual(lists, [[(2, 9, (1, 2))], [(1, 1, LOOSE), (2, 9, ("boat", 20))], [(20, (1, 2), None)]])
            for told in lists:
                told.clear()
        self.assertEqual((told_of(one), told_of(other)), ahead)


if __name__ == "__main__":
    unittest.main()

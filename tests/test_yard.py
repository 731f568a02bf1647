"""Points 1, 2, 7 and 8 and the interface's section argosy/yard.py: refusals, words, names, twins."""

import random
import unittest

from argosy.errors import ArgosyError, BadFact, BadNumber, Late, NoBoat, NoName, NoTimber
from argosy.yard import Yard
from tests.plain import (
    BIG, PlainYard, entered, kinds, some_fact, timbers, told, told_by_a_yard_that_passed_to, yard_of,
)

NO_DAYS = (0, -1, 401, 402, -400, BIG, -BIG)
UNSOUND = (("fell", 0), ("fell", 61), ("sink", 1), ("",), ("refit", (), ()), ("storm", ()), ("lend", 9, 1), ("clear", "1"))


class Told(unittest.TestCase):
    def assert_refused(self, refusal, yard, asked, *things):
        """Refused is just that, and all is as it was."""
        ahead = told(yard)
        with self.assertRaises(ArgosyError, msg=(asked, things)) as refused:
            getattr(yard, asked)(*things)
        self.assertIs(type(refused.exception), refusal, (asked, things))
        self.assertEqual(told(yard), ahead)

    def assert_idle(self, yard, fact, word):
        """Idle for that reason, and nothing is changed but the day."""
        ahead, day = told(yard), yard.today() + 1
        answer = yard.enter(day, fact)
        self.assertIs(type(answer), str)
        self.assertEqual(answer, word, fact)
        self.assertEqual(told(yard), told_by_a_yard_that_passed_to(day, ahead), fact)

    def assert_good(self, yard, *facts):
        for fact in facts:
            answer = yard.enter(yard.today() + 1, fact)
            self.assertIs(type(answer), str)
            self.assertEqual(answer, "good", fact)

    def assert_boats(self, yard, wished):
        self.assertEqual({name: yard.boat(name) for name in yard.boats()}, wished)


class ANewYard(Told):
    def test_each_slip(self):
        for slip in range(1, 13):
            yard = Yard(slip)
            self.assertEqual(yard.slip(), slip)
            wished = {
                "days": (0, slip, 0), "timbers": ([], [], []), "boats": ([], []), "names": ([], []), "owed": ([], []),
                "money": ((0, 1), 0, (0, 1)),
            }
            self.assertEqual(told(yard), wished)
            self.assertEqual(kinds(told(yard)), kinds(wished))

    def test_no_slip(self):
        for slip in (0, -1, 13, 14, -12, BIG, -BIG):
            with self.assertRaises(ArgosyError) as refused:
                Yard(slip)
            self.assertIs(type(refused.exception), BadNumber)


class TheRefusals(Told):
    def yards(self):
        yards = [Yard(3), yard_of([(1, 2, 3), (4, 5)], 20, 3)]
        yards[1].enter(7, ("lend", 20, 5))
        return yards

    def test_no_day(self):
        for yard in self.yards():
            for day in NO_DAYS:
                self.assert_refused(BadNumber, yard, "enter", day, ("fell", 1))

    def test_no_sound_fact(self):
        for yard in self.yards():
            for fact in UNSOUND + (("refit", (), (timbers(4),)),):
                for day in (8, 400):
                    self.assert_refused(BadFact, yard, "enter", day, fact)

    def test_sound_goes_by_the_slip(self):
        for slip in range(1, 13):
            yard = Yard(slip)
            self.assertEqual(yard.enter(1, ("fell", 60)), "good")
            self.assert_refused(BadFact, yard, "enter", 2, ("refit", (), (timbers(slip + 1),)))
            self.assertEqual(yard.enter(2, ("refit", (), (timbers(slip),))), "good")

    def test_no_later_day(self):
        yard = self.yards()[1]
        for day in range(1, 8):
            self.assert_refused(Late, yard, "enter", day, ("fell", 1))
        self.assertEqual(yard.enter(8, ("fell", 1)), "good")
        self.assert_refused(Late, yard, "enter", 8, ("fell", 1))

    def test_an_idle_fact_takes_its_day_too(self):
        yard = self.yards()[1]
        self.assertEqual(yard.enter(9, ("fell", 60)), "full")
        self.assert_refused(Late, yard, "enter", 9, ("fell", 1))
        self.assertEqual(yard.enter(10, ("fell", 1)), "good")

    def test_late_is_refused_whatever_the_word_would_be(self):
        yard = self.yards()[1]
        for fact in (("fell", 60), ("refit", (4007,), ()), ("storm", (60,)), ("find", (1,)), ("pay", 20, 6), ("clear", 1)):
            self.assert_refused(Late, yard, "enter", 7, fact)

    def test_two_and_three_at_once(self):
        yard = self.yards()[1]
        for fact in UNSOUND:
            for day in NO_DAYS:
                self.assert_refused(BadNumber, yard, "enter", day, fact)
            for day in (1, 6, 7):
                self.assert_refused(BadFact, yard, "enter", day, fact)
        yard.pass_to(400)
        for day in NO_DAYS:
            self.assert_refused(BadNumber, yard, "enter", day, ("fell", 1))
        self.assert_refused(BadFact, yard, "enter", 400, ("fell", 0))
        self.assert_refused(Late, yard, "enter", 400, ("fell", 1))

    def test_what_was_refused_counts_for_nothing(self):
        yard = self.yards()[1]
        ahead = told(yard)
        for day, fact in ((401, ("fell", 1)), (300, ("fell", 0)), (7, ("fell", 1))):
            with self.assertRaises(ArgosyError):
                yard.enter(day, fact)
        with self.assertRaises(ArgosyError):
            yard.pass_to(6)
        self.assertEqual(told(yard), ahead)
        self.assertEqual(yard.enter(8, ("fell", 1)), "good")
        self.assertEqual(yard.line(21), [(8, ("loose",))])


class PassTo(Told):
    def test_later_and_the_same_day(self):
        yard = yard_of([(1, 2)])
        ahead = told(yard)
        for day in (2, 3, 3, 50, 399, 400, 400):
            self.assertIsNone(yard.pass_to(day))
            self.assertEqual(yard.today(), day)
            self.assertEqual(told(yard), told_by_a_yard_that_passed_to(day, ahead))

    def test_no_day(self):
        for yard in (Yard(3), yard_of([(1, 2)])):
            for day in NO_DAYS:
                self.assert_refused(BadNumber, yard, "pass_to", day)
        yard.pass_to(400)
        for day in NO_DAYS:
            self.assert_refused(BadNumber, yard, "pass_to", day)

    def test_an_earlier_day(self):
        yard = yard_of([(1, 2)])
        yard.pass_to(9)
        for day in range(1, 9):
            self.assert_refused(Late, yard, "pass_to", day)

    def test_facts_are_entered_later_than_that_day(self):
        yard = Yard(3)
        yard.pass_to(9)
        for day in (1, 8, 9):
            self.assert_refused(Late, yard, "enter", day, ("fell", 1))
        self.assertEqual(yard.enter(10, ("fell", 1)), "good")
        self.assertEqual(yard.line(1), [(10, ("loose",))])

    def test_to_the_first_day(self):
        yard = Yard(3)
        yard.pass_to(1)
        self.assertEqual(yard.today(), 1)


class Fell(Told):
    def test_numbered_on_from_the_last(self):
        yard = Yard(12)
        self.assertEqual(yard.enter(3, ("fell", 2)), "good")
        self.assertEqual(yard.enter(5, ("fell", 3)), "good")
        self.assertEqual((yard.felled(), yard.loose(), yard.lost()), (5, [1, 2, 3, 4, 5], []))
        days = [yard.line(timber) for timber in range(1, 6)]
        self.assertEqual(days, [[(3, ("loose",))]] * 2 + [[(5, ("loose",))]] * 3)

    def test_to_just_sixty_and_beyond(self):
        yard = Yard(12)
        self.assert_good(yard, ("fell", 60))
        self.assert_idle(yard, ("fell", 1), "full")
        yard = Yard(12)
        self.assert_good(yard, ("fell", 30))
        self.assert_idle(yard, ("fell", 31), "full")
        self.assert_idle(yard, ("fell", 60), "full")
        self.assert_good(yard, ("fell", 29))
        self.assert_idle(yard, ("fell", 2), "full")
        self.assert_good(yard, ("fell", 1))
        self.assert_idle(yard, ("fell", 1), "full")
        self.assertEqual(yard.loose(), list(range(1, 61)))

    def test_timbers_in_boats_and_lost_ones_count_too(self):
        yard = yard_of([(1, 2)], 59)
        self.assert_good(yard, ("storm", (5, 6, 7)))
        self.assert_idle(yard, ("fell", 2), "full")
        self.assert_good(yard, ("fell", 1))
        self.assertEqual(yard.place(60), ("loose",))


class Refit(Told):
    def test_sets_are_boats_and_the_rest_is_loose(self):
        yard = yard_of([(4, 2, 9), (7,)], 10)
        self.assert_boats(yard, {20: [2, 4, 9], 21: [7]})
        self.assertEqual(yard.loose(), [1, 3, 5, 6, 8, 10])
        self.assertEqual([yard.place(timber) for timber in (2, 7, 1)], [("boat", 20), ("boat", 21), ("loose",)])

    def test_names_alone(self):
        yard = yard_of([(1, 2), (3,), (4, 5)], 6)
        self.assert_good(yard, ("refit", (22, 20), ()))
        self.assert_boats(yard, {21: [3]})
        self.assertEqual(yard.loose(), [1, 2, 4, 5, 6])
        self.assertEqual([yard.down(name) for name in (20, 21, 22)], [3, None, 3])

    def test_names_boats_and_takes_loose_timbers_too(self):
        yard = yard_of([(1, 2, 3), (4, 5)], 9)
        self.assert_good(yard, ("refit", (20, 21), ((9, 1, 2, 3), (8, 5))))
        self.assert_boats(yard, {20: [1, 2, 3, 9], 31: [5, 8]})
        self.assertEqual(yard.loose(), [4, 6, 7])

    def test_noboat(self):
        yard = yard_of([(1, 2), (3, 4)])
        self.assert_good(yard, ("refit", (21,), ()))
        for names in ((21,), (20, 21), (21, 20), (22,), (20, 22), (10,), (4007,), (30,), (40, 20)):
            self.assert_idle(yard, ("refit", names, ()), "noboat")
            self.assert_idle(yard, ("refit", names, ((1, 2),)), "noboat")

    def test_a_name_is_not_given_ahead_of_its_founding(self):
        yard = yard_of([(1, 2)])
        self.assertEqual(yard.enter(3, ("refit", (30,), ((5,),))), "noboat")

    def test_nothere(self):
        yard = yard_of([(1, 2, 3), (4, 5)], 20)
        self.assert_good(yard, ("storm", (9,)))
        for sets in (((21,),), ((60,),), ((9,),), ((4,),), ((1, 2), (5,)), ((6, 7), (8, 9)), ((1, 2, 3, 21),)):
            self.assert_idle(yard, ("refit", (20,), sets), "nothere")
        for sets in (((1,),), ((6, 4),), ((6,), (7,), (1,))):
            self.assert_idle(yard, ("refit", (), sets), "nothere")

    def test_full(self):
        eight = [(timber,) for timber in range(1, 9)]
        yard = yard_of(eight)
        self.assertEqual(len(yard.boats()), 8)
        self.assert_idle(yard, ("refit", (), ((9,),)), "full")
        self.assert_idle(yard, ("refit", (20,), ((9,), (1,))), "full")
        self.assert_idle(yard, ("refit", (20, 21), ((9,), (1,), (2,))), "full")
        self.assert_good(yard, ("refit", (20,), ((9, 1),)))
        self.assert_good(yard, ("refit", (21, 22), ((2, 3), (10,))))
        self.assertEqual(len(yard.boats()), 8)

    def test_to_just_eight_and_to_nine(self):
        seven = [(timber,) for timber in range(1, 8)]
        yard = yard_of(seven)
        self.assert_idle(yard, ("refit", (), ((8,), (9,))), "full")
        self.assert_idle(yard, ("refit", (20,), ((8,), (9,), (1,))), "full")
        self.assert_good(yard, ("refit", (20,), ((8,), (9,))))
        self.assertEqual(len(yard.boats()), 8)

    def test_boats_that_went_down_are_not_counted(self):
        eight = [(timber,) for timber in range(1, 9)]
        yard = yard_of(eight)
        self.assert_good(yard, ("storm", (1, 2, 3)), ("refit", (), ((11,), (12,), (13,))))
        self.assert_idle(yard, ("refit", (), ((14,),)), "full")

    def test_the_word_told_first(self):
        eight = [(timber, 10 + timber) for timber in range(1, 9)]
        yard = yard_of(eight, 20)
        no_boat, not_there, many = (99,), (21,), ((9,), (10,))
        self.assert_idle(yard, ("refit", no_boat, (not_there,) + many), "noboat")
        self.assert_idle(yard, ("refit", no_boat + (20,), many), "noboat")
        self.assert_idle(yard, ("refit", no_boat, (not_there,)), "noboat")
        self.assert_idle(yard, ("refit", (), (not_there,)), "nothere")
        self.assert_idle(yard, ("refit", (20,), many + (not_there,)), "nothere")
        self.assert_idle(yard, ("refit", (20,), many), "full")


class StormAndFind(Told):
    def test_storm_over_boats_and_loose_timbers(self):
        yard = yard_of([(1, 2, 3), (4, 5), (6, 7, 8)], 12)
        self.assert_good(yard, ("storm", (12, 3, 5, 10)))
        self.assert_boats(yard, {20: [1, 2], 22: [6, 7, 8]})
        self.assertEqual((yard.loose(), yard.lost()), ([4, 9, 11], [3, 5, 10, 12]))
        self.assertEqual([yard.down(name) for name in (20, 21, 22)], [None, 3, None])

    def test_storm_over_what_isnt_there(self):
        yard = yard_of([(1, 2, 3), (4, 5)], 12)
        self.assert_good(yard, ("storm", (7, 8)))
        for lost in ((7,), (13,), (60,), (1, 7), (7, 1), (9, 13), (13, 9), (1, 2, 3, 60), (7, 13)):
            self.assert_idle(yard, ("storm", lost), "nothere")

    def test_storm_ahead_of_all_felling(self):
        self.assert_idle(Yard(3), ("storm", (1,)), "nothere")
        self.assert_idle(Yard(3), ("find", (1,)), "nothere")

    def test_storm_over_all_sixty(self):
        yard = yard_of([timbers(12), timbers(12, 13)])
        self.assert_good(yard, ("storm", timbers(60)))
        self.assertEqual((yard.boats(), yard.loose(), yard.lost()), ([], [], list(range(1, 61))))
        self.assert_good(yard, ("find", timbers(60)[::-1]))
        self.assertEqual((yard.boats(), yard.loose(), yard.lost()), ([], list(range(1, 61)), []))

    def test_find(self):
        yard = yard_of([(1, 2, 3)], 12)
        self.assert_good(yard, ("storm", (3, 9, 10)), ("find", (10, 3)))
        self.assertEqual((yard.loose(), yard.lost()), ([3, 4, 5, 6, 7, 8, 10, 11, 12], [9]))
        self.assert_boats(yard, {20: [1, 2]})

    def test_find_what_isnt_lost(self):
        yard = yard_of([(1, 2, 3)], 12)
        self.assert_good(yard, ("storm", (3, 9)))
        for found in ((1,), (4,), (13,), (60,), (3, 4), (4, 3), (9, 1), (3, 9, 13), (13, 3)):
            self.assert_idle(yard, ("find", found), "nothere")
        self.assert_good(yard, ("find", (3, 9)))
        self.assert_idle(yard, ("find", (3,)), "nothere")

    def test_found_timbers_may_be_lost_again_and_built_in(self):
        yard = yard_of([(1, 2, 3)], 4)
        self.assert_good(yard, ("storm", (4,)), ("find", (4,)), ("storm", (4,)), ("find", (4,)))
        self.assert_good(yard, ("refit", (20,), ((1, 2, 3, 4),)))
        self.assert_boats(yard, {20: [1, 2, 3, 4]})


class TheNames(Told):
    def test_just_half_and_one_more(self):
        for half in range(1, 6):
            boat = timbers(2 * half)
            for behind, goes_on in (
                (boat[:half], False), (boat[half:], False), (boat[:half + 1], True), (boat[half - 1:], True),
                (boat[:half] + timbers(half, 30), False), (boat[:half + 1] + timbers(half - 1, 30), True),
                (boat + timbers(2 * half, 30), False), (boat + timbers(2 * half - 1, 30), True),
            ):
                if len(behind) <= 12:
                    yard = yard_of([boat])
                    self.assert_good(yard, ("refit", (20,), (behind,)))
                    self.assert_boats(yard, {20 if goes_on else 30: sorted(behind)})
                    self.assertEqual(yard.down(20), None if goes_on else 3)
                    self.assertEqual(yard.loose(), [one for one in range(1, 61) if one not in behind])

    def test_two_boats_exchanged_by_name(self):
        yard = yard_of([(1, 2, 3), (4, 5, 6)], 6)
        self.assert_good(yard, ("refit", (20, 21), ((4, 5, 1), (2, 3, 6))))
        self.assert_boats(yard, {20: [2, 3, 6], 21: [1, 4, 5]})
        self.assertEqual(yard.names(), [20, 21])
        self.assert_good(yard, ("refit", (20, 21), ((1, 4, 5), (2, 3, 6))))
        self.assert_good(yard, ("refit", (21, 20), ((1, 4, 5), (2, 3, 6))))
        self.assert_boats(yard, {20: [2, 3, 6], 21: [1, 4, 5]})

    def test_joined(self):
        yard = yard_of([timbers(5), timbers(3, 6)])
        self.assert_good(yard, ("refit", (20, 21), (timbers(8),)))
        self.assert_boats(yard, {20: list(timbers(8))})
        self.assertEqual(yard.down(21), 3)
        yard = yard_of([timbers(4), timbers(4, 5)])
        self.assert_good(yard, ("refit", (20, 21), (timbers(8),)))
        self.assert_boats(yard, {30: list(timbers(8))})
        self.assertEqual((yard.down(20), yard.down(21)), (3, 3))

    def test_pulled_apart(self):
        yard = yard_of([timbers(7)])
        self.assert_good(yard, ("refit", (20,), ((1, 2), (3, 4, 5, 6), (7,))))
        self.assert_boats(yard, {20: [3, 4, 5, 6], 30: [1, 2], 32: [7]})

    def test_places_count_from_nought_over_all_sets(self):
        yard = Yard(12)
        yard.enter(1, ("fell", 60))
        yard.enter(7, ("refit", (), tuple((timber,) for timber in range(8, 0, -1))))
        self.assert_boats(yard, {70 + place: [8 - place] for place in range(8)})
        yard.enter(19, ("refit", (77, 71, 72, 70), ((20,), (1,), (21,), (8,))))
        self.assertEqual(yard.boats(), [70, 73, 74, 75, 76, 77, 190, 192])
        self.assertEqual((yard.boat(190), yard.boat(192)), ([20], [21]))

    def test_the_first_and_the_last_name(self):
        yard = Yard(12)
        yard.enter(1, ("fell", 60))
        yard.enter(400, ("refit", (), tuple((timber,) for timber in range(1, 9))))
        self.assertEqual(yard.names(), list(range(4000, 4008)))

    def test_a_boat_that_is_not_named_stays(self):
        yard = yard_of([(1, 2, 3), (4, 5, 6)], 12)
        self.assert_good(yard, ("refit", (21,), ((4, 7),)))
        self.assert_boats(yard, {20: [1, 2, 3], 30: [4, 7]})

    def test_the_very_same_timbers_again(self):
        yard = yard_of([(1, 2, 3)], 6)
        self.assert_good(yard, ("refit", (20,), ()))
        self.assert_good(yard, ("refit", (), ((1, 2, 3),)))
        self.assert_boats(yard, {40: [1, 2, 3]})
        self.assertEqual((yard.down(20), yard.down(40)), (3, None))
        self.assert_idle(yard, ("refit", (20,), ()), "noboat")
        self.assertEqual(yard.names(), [20, 40])

    def test_first_timbers_stay(self):
        yard = yard_of([(3, 1, 2)], 12)
        self.assert_good(
            yard, ("refit", (20,), ((2, 3, 4),)), ("refit", (20,), ((3, 4, 5),)), ("refit", (20,), ((4, 5, 6),)))
        self.assert_boats(yard, {20: [4, 5, 6]})
        self.assertEqual(yard.first(20), [1, 2, 3])
        self.assert_good(yard, ("refit", (20,), ()))
        self.assertEqual(yard.first(20), [1, 2, 3])

    def test_a_storm_that_leaves_just_half_and_one_more(self):
        for many in range(1, 13):
            boat = timbers(many)
            for left in range(many):
                yard = yard_of([boat, timbers(3, 20)])
                self.assert_good(yard, ("storm", boat[left:]))
                goes_on = left > many - left
                self.assertEqual(yard.down(20), None if goes_on else 3)
                self.assertEqual(yard.boats(), [20, 21] if goes_on else [21])
                self.assertEqual(yard.lost(), list(boat[left:]))
                self.assertEqual(yard.place(1), ("lost",) if left == 0 else ("boat", 20) if goes_on else ("loose",))

    def test_one_storm_over_several_boats(self):
        yard = yard_of([timbers(4), timbers(4, 5), timbers(4, 9), timbers(4, 13)], 20)
        self.assert_good(yard, ("storm", (13, 14, 15, 16, 10, 5, 6, 20)))
        self.assert_boats(yard, {20: [1, 2, 3, 4], 22: [9, 11, 12]})
        self.assertEqual((yard.loose(), yard.lost()), ([7, 8, 17, 18, 19], [5, 6, 10, 13, 14, 15, 16, 20]))
        self.assertEqual([yard.down(name) for name in yard.names()], [None, 3, None, 3])

    def test_a_storm_takes_the_half_of_the_boat_as_it_is(self):
        yard = yard_of([timbers(7)], 7)
        self.assert_good(yard, ("storm", (1, 2, 3)), ("storm", (4,)), ("storm", (5,)))
        self.assert_boats(yard, {20: [6, 7]})
        self.assert_good(yard, ("storm", (6,)))
        self.assert_boats(yard, {})
        self.assertEqual((yard.loose(), yard.down(20)), ([7], 6))


class NotThere(Told):
    def test_names(self):
        yard = yard_of([(1, 2), (3, 4)], 5)
        self.assert_good(yard, ("refit", (21,), ()))
        for name in (0, 1, 2, 9, 10, 19, 22, 29, 30, 31, -1, -20, 4007, 4008, 200, BIG, -BIG):
            self.assert_refused(NoBoat, yard, "boat", name)
            for asked in ("first", "down", "chain", "owed"):
                self.assert_refused(NoName, yard, asked, name)

    def test_names_that_went_down(self):
        yard = yard_of([(1, 2), (3, 4)], 5)
        self.assert_good(yard, ("refit", (21,), ()))
        self.assert_refused(NoBoat, yard, "boat", 21)
        told_of_it = (yard.first(21), yard.down(21), yard.chain(21), yard.owed(21))
        self.assertEqual(told_of_it, ([3, 4], 3, [(2, (3, 4))], (0, 1)))

    def test_timbers(self):
        for yard, felled in ((Yard(12), 0), (yard_of([(1, 2)], 5), 5), (yard_of([(1, 2)], 60), 60)):
            for timber in (0, -1, -5, felled + 1, felled + 2, 61, 62, BIG, -BIG):
                for asked in ("place", "line", "owed_on"):
                    self.assert_refused(NoTimber, yard, asked, timber)
            for timber in range(1, felled + 1):
                yard.place(timber), yard.line(timber), yard.owed_on(timber)


class NothingIsChangedOrKept(Told):
    def full_yard(self):
        yard = yard_of([(1, 2, 3), (4, 5, 6)], 12)
        self.assert_good(
            yard, ("lend", 20, 10), ("lend", 21, 7), ("refit", (20,), ((1, 2, 7),)), ("refit", (21,), ((4, 8, 9),)),
            ("storm", (8, 5)), ("pay", 20, 3))
        return yard

    def spoil(self, rows):
        for row in rows:
            row.append(99)
            row[0] = None

    def test_told_lists_are_the_callers_own(self):
        yard = self.full_yard()
        ahead = told(yard)
        self.spoil([yard.loose(), yard.lost(), yard.boats(), yard.names()])
        for name in yard.names():
            self.spoil([yard.first(name), yard.chain(name)])
        for name in yard.boats():
            self.spoil([yard.boat(name)])
        for timber in range(1, 13):
            self.spoil([yard.line(timber)])
        self.assertEqual(told(yard), ahead)
        self.assert_good(yard, ("find", (5,)), ("refit", (20,), ((1, 2, 5),)))
        self.assertEqual(yard.boat(20), [1, 2, 5])

    def test_what_is_told_stays_when_the_yard_goes_on(self):
        yard = self.full_yard()
        kept = (yard.loose(), yard.lost(), yard.boats(), yard.boat(20), yard.names(), yard.chain(20), yard.line(5))
        wished = tuple(list(row) for row in kept)
        self.assert_good(yard, ("find", (5,)), ("refit", (20,), ((1, 2, 5),)), ("refit", (), ((3,),)))
        self.assertEqual(kept, wished)

    def test_two_yards_share_nothing(self):
        one, other = Yard(3), Yard(3)
        self.assert_good(one, ("fell", 5), ("refit", (), ((1, 2),)), ("lend", 20, 5))
        self.assertEqual(told(other), told(Yard(3)))
        self.assert_good(other, ("fell", 2))
        self.assertEqual((one.felled(), other.felled()), (5, 2))

    def test_kinds(self):
        yard, plain = self.full_yard(), PlainYard(12)
        entered(plain, [("fell", 12), ("refit", (), ((1, 2, 3), (4, 5, 6)))])
        entered(plain, [
            ("lend", 20, 10), ("lend", 21, 7), ("refit", (20,), ((1, 2, 7),)), ("refit", (21,), ((4, 8, 9),)),
            ("storm", (8, 5)), ("pay", 20, 3)])
        self.assertEqual(told(yard), told(plain))
        self.assertEqual(kinds(told(yard)), kinds(told(plain)))


class Twins(Told):
    def test_a_twin_is_alike_and_goes_its_own_way(self):
        facts = [
            ("fell", 9), ("refit", (), ((1, 2, 3), (4, 5))), ("lend", 20, 10), ("lend", 21, 4), ("refit", (21,), ()),
            ("storm", (6,)), ("clear", 4), ("pay", 20, 2),
        ]
        more = [
            [("fell", 3)], [("refit", (20,), ((1, 2, 7),))], [("refit", (20,), ())], [("refit", (), ((4, 5),))],
            [("storm", (1,))], [("storm", (1, 2))], [("find", (6,))], [("lend", 20, 1)], [("pay", 20, 1)], [("clear", 5)],
            [("fell", 60)],
        ]
        for later in more:
            yard = Yard(12)
            entered(yard, facts)
            twin = yard.twin()
            self.assertIs(type(twin), Yard)
            ahead = told(yard)
            self.assertEqual(told(twin), ahead)
            self.assertEqual(kinds(told(twin)), kinds(ahead))
            words = entered(twin, later)
            self.assertNotEqual(told(twin), ahead)
            self.assertEqual(told(yard), ahead)
            behind = told(twin)
            self.assertEqual(entered(yard, later), words)
            self.assertEqual(told(yard), behind)
            entered(yard, [("fell", 1)])
            self.assertEqual(told(twin), behind)

    def test_a_twin_of_a_twin(self):
        yard = yard_of([(1, 2, 3)], 9)
        one = yard.twin()
        two = one.twin()
        self.assert_good(one, ("storm", (1,)))
        self.assert_good(two, ("lend", 20, 7))
        yard.pass_to(50)
        self.assertEqual((yard.lost(), one.lost(), two.lost()), ([], [1], []))
        self.assertEqual((yard.lent(), one.lent(), two.lent()), (0, 0, 7))
        self.assertEqual((yard.today(), one.today(), two.today()), (50, 3, 3))

    def test_a_twin_of_a_new_yard(self):
        yard = Yard(4)
        twin = yard.twin()
        self.assertEqual(told(twin), told(Yard(4)))
        self.assert_good(twin, ("fell", 1))
        self.assertEqual((yard.felled(), yard.today(), twin.felled(), twin.today()), (0, 0, 1, 1))


class ByLot(Told):
    """Yards of any slip, with facts drawn by lot, beside a plain yard."""

    def test_all_that_is_told_behind_each_fact(self):
        words = set()
        for seed in range(40):
            chance = random.Random(seed)
            slip = 1 + seed % 12
            yard, plain = Yard(slip), PlainYard(slip)
            for _ in range(45):
                fact = some_fact(chance, yard)
                day = yard.today() + chance.choice([1, 1, 2, 5])
                word = yard.enter(day, fact)
                self.assertEqual(word, plain.enter(day, fact), (seed, day, fact))
                self.assertEqual(told(yard), told(plain), (seed, day, fact))
                words.add((fact[0], word))
            self.assertEqual(kinds(told(yard)), kinds(told(plain)))
        self.assertEqual(words, {
            ("fell", "good"), ("fell", "full"), ("refit", "good"), ("refit", "noboat"), ("refit", "nothere"),
            ("refit", "full"), ("storm", "good"), ("storm", "nothere"), ("find", "good"), ("find", "nothere"),
            ("lend", "good"), ("lend", "noboat"), ("pay", "good"), ("pay", "noboat"), ("pay", "toomuch"),
            ("clear", "good"), ("clear", "nothere"), ("clear", "nothing"),
        })

    def test_four_hundred_days(self):
        chance = random.Random(400)
        yard, plain = Yard(12), PlainYard(12)
        for day in range(1, 401):
            fact = some_fact(chance, yard)
            self.assertEqual(yard.enter(day, fact), plain.enter(day, fact), (day, fact))
        self.assertEqual(told(yard), told(plain))
        self.assert_refused(BadNumber, yard, "enter", 401, ("fell", 1))


if __name__ == "__main__":
    unittest.main()

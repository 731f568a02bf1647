"""Points 1, 2, 16 and 17, and the interface's section argosy/diary.py."""

import random
import unittest

from argosy.diary import Diary
from argosy.errors import BadFact, BadNumber, NoDeed, NoFact, Taken
from argosy.yard import Yard
from tests.plain import (
    BIG, PlainYard, Refusing, diary_of, drawn_facts, entered, kinds, some_fact, told, told_of, yard_that_heard,
)

NO_DAYS = (0, -1, 401, 402, -400, BIG, -BIG)
NO_FACTS = (
    ("fell", 0), ("fell", 61), ("fell",), ("fell", 1, 1), ("fell", "1"), ("fell", (1,)), ("felled", 1), ("", 1), ("fell", BIG),
    ("refit", (), ()), ("refit", (10, 10), ()), ("refit", (9,), ()), ("refit", (), ((1, 1),)), ("refit", (), ((),)),
    ("refit", (), ((1,), (1,))), ("refit", (10,)), ("refit", (), (1,)), ("refit", 10, 1), ("refit", (), ((1, 2, 3, 4, 5),)),
    ("storm", ()), ("storm", (1, 1)), ("storm", (61,)), ("storm", 1), ("find", (0,)), ("find", ((1,),)), ("find",),
    ("lend", 9, 1), ("lend", 10, 0), ("lend", 4008, 1), ("lend", 10, 10 ** 6 + 1), ("pay", 10), ("pay", 10, -1),
    ("clear", 0), ("clear", 61), ("clear", (1,)), ("strike", 1), ("word", 1), ("tell", 1, ("fell", 1)),
)
FELL, BUILD, STORM = ("fell", 9), ("refit", (), ((1, 2, 3), (4, 5))), ("storm", (1,))


class PlainDiary:
    """A diary that keeps all facts anew behind each deed, and goes to and fro among these."""

    def __init__(self, slip):
        self.slip = slip
        self.pages = [({}, None)]
        self.at = 0

    def do(self, deed):
        facts = dict(self.pages[self.at][0])
        if deed[0] == "tell":
            facts[deed[1]] = deed[2]
        else:
            facts.pop(deed[1])
        self.pages[self.at + 1:] = [(facts, deed)]
        self.at += 1

    def told(self):
        deeds = [deed for _, deed in self.pages[1:]]
        return (self.slip, deeds[:self.at], sorted(self.pages[self.at][0].items()), deeds[self.at:])


class TheDiary(Refusing):
    def assert_refused_and_as_it_was(self, refusal, diary, call):
        ahead = told_of(diary)
        self.assert_refused(refusal, call)
        self.assertEqual(told_of(diary), ahead)


class ANewDiary(TheDiary):
    def test_each_slip(self):
        for slip in range(1, 13):
            diary = Diary(slip)
            self.assertEqual(told_of(diary), (slip, [], [], []))
            self.assertEqual(kinds(told_of(diary)), kinds((slip, [], [], [])))
            self.assertEqual(told(diary.yard(1)), told(yard_that_heard(slip, [], 1)))

    def test_no_slip(self):
        for slip in (0, -1, 13, 14, -12, BIG, -BIG):
            self.assert_refused(BadNumber, lambda: Diary(slip))

    def test_nothing_there_yet(self):
        diary = Diary(3)
        for day in (1, 200, 400):
            self.assert_refused_and_as_it_was(NoFact, diary, lambda: diary.strike(day))
            self.assert_refused_and_as_it_was(NoFact, diary, lambda: diary.word(day))
        self.assert_refused_and_as_it_was(NoDeed, diary, diary.undo)
        self.assert_refused_and_as_it_was(NoDeed, diary, diary.redo)


class Deeds(TheDiary):
    def test_told_in_any_order_of_days(self):
        diary = Diary(4)
        for day, fact in ((7, STORM), (1, FELL), (400, FELL), (3, BUILD)):
            self.assertIsNone(diary.tell(day, fact))
        self.assertEqual(diary.facts(), [(1, FELL), (3, BUILD), (7, STORM), (400, FELL)])
        self.assertEqual(
            diary.deeds(), [("tell", 7, STORM), ("tell", 1, FELL), ("tell", 400, FELL), ("tell", 3, BUILD)])

    def test_struck_and_told_again(self):
        diary = diary_of([(5, FELL), (2, BUILD)])
        self.assertIsNone(diary.strike(5))
        self.assertEqual(diary.facts(), [(2, BUILD)])
        self.assert_refused_and_as_it_was(NoFact, diary, lambda: diary.strike(5))
        self.assertIsNone(diary.tell(5, STORM))
        self.assertEqual(diary.facts(), [(2, BUILD), (5, STORM)])
        self.assertEqual(
            diary.deeds(), [("tell", 5, FELL), ("tell", 2, BUILD), ("strike", 5), ("tell", 5, STORM)])
        diary.strike(5)
        diary.strike(2)
        self.assertEqual((diary.facts(), len(diary.deeds())), ([], 6))

    def test_days_at_their_bounds_and_beyond(self):
        diary = Diary(4)
        for day in (1, 2, 399, 400):
            diary.tell(day, FELL)
        for day in NO_DAYS:
            self.assert_refused_and_as_it_was(BadNumber, diary, lambda: diary.tell(day, FELL))
            self.assert_refused_and_as_it_was(BadNumber, diary, lambda: diary.strike(day))
        for day in (1, 2, 399, 400):
            diary.strike(day)
        self.assertEqual(diary.facts(), [])

    def test_facts_that_are_not_sound(self):
        diary = diary_of([(1, FELL)], 4)
        for fact in NO_FACTS:
            with self.subTest(fact):
                self.assert_refused_and_as_it_was(BadFact, diary, lambda: diary.tell(9, fact))

    def test_sound_goes_by_the_slip(self):
        for slip in range(1, 13):
            diary = Diary(slip)
            diary.tell(1, ("refit", (), (tuple(range(1, slip + 1)),)))
            self.assert_refused_and_as_it_was(
                BadFact, diary, lambda: diary.tell(2, ("refit", (), (tuple(range(1, slip + 2)),))))

    def test_a_day_that_is_taken(self):
        diary = diary_of([(1, FELL), (7, STORM)])
        for day in (1, 7):
            for fact in (FELL, STORM, BUILD):
                self.assert_refused_and_as_it_was(Taken, diary, lambda: diary.tell(day, fact))

    def test_which_refusal_goes_first(self):
        diary = diary_of([(1, FELL)])
        for day in NO_DAYS:
            self.assert_refused_and_as_it_was(BadNumber, diary, lambda: diary.tell(day, ("fell", 0)))
        self.assert_refused_and_as_it_was(BadFact, diary, lambda: diary.tell(1, ("fell", 0)))

    def test_idle_facts_are_kept_too(self):
        diary = diary_of([(1, STORM), (2, ("pay", 10, 5)), (3, ("clear", 60))])
        self.assertEqual([day for day, _ in diary.facts()], [1, 2, 3])
        self.assertEqual([diary.word(day) for day in (1, 2, 3)], ["nothere", "noboat", "nothere"])

    def test_told_lists_may_be_changed(self):
        diary = diary_of([(1, FELL), (2, BUILD)])
        ahead = told_of(diary)
        diary.deeds().clear()
        diary.facts().append((9, STORM))
        diary.facts().clear()
        self.assertEqual(told_of(diary), ahead)
        self.assertEqual(kinds(ahead), kinds((12, [("tell", 1, FELL), ("tell", 2, BUILD)], [(1, FELL), (2, BUILD)], [])))


class BackAndAgain(TheDiary):
    def test_tells_and_strikes(self):
        diary = diary_of([(5, FELL), (2, BUILD)])
        diary.strike(5)
        facts = [[], [(5, FELL)], [(2, BUILD), (5, FELL)], [(2, BUILD)]]
        for many in (2, 1, 0):
            self.assertIsNone(diary.undo())
            self.assertEqual((len(diary.deeds()), diary.facts()), (many, facts[many]))
        self.assert_refused_and_as_it_was(NoDeed, diary, diary.undo)
        for many in (1, 2, 3):
            self.assertIsNone(diary.redo())
            self.assertEqual((len(diary.deeds()), diary.facts()), (many, facts[many]))
        self.assert_refused_and_as_it_was(NoDeed, diary, diary.redo)
        self.assertEqual(diary.deeds(), [("tell", 5, FELL), ("tell", 2, BUILD), ("strike", 5)])

    def test_a_day_is_free_again_and_taken_again(self):
        diary = diary_of([(5, FELL)])
        diary.undo()
        self.assert_refused_and_as_it_was(NoFact, diary, lambda: diary.strike(5))
        diary.redo()
        self.assert_refused_and_as_it_was(Taken, diary, lambda: diary.tell(5, STORM))
        diary.strike(5)
        diary.undo()
        self.assert_refused_and_as_it_was(Taken, diary, lambda: diary.tell(5, STORM))
        diary.redo()
        diary.tell(5, STORM)
        self.assertEqual(diary.facts(), [(5, STORM)])

    def test_forgotten_where_a_new_deed_is_done(self):
        for deed in (lambda diary: diary.tell(9, STORM), lambda diary: diary.strike(1)):
            diary = diary_of([(1, FELL), (2, BUILD), (3, STORM)])
            diary.undo()
            diary.undo()
            deed(diary)
            self.assert_refused_and_as_it_was(NoDeed, diary, diary.redo)
            diary.undo()
            self.assertEqual(diary.facts(), [(1, FELL)])
            diary.redo()
            self.assert_refused_and_as_it_was(NoDeed, diary, diary.redo)

    def test_forgotten_where_the_same_deed_is_done(self):
        diary = diary_of([(1, FELL), (2, BUILD), (3, STORM)])
        diary.undo()
        diary.undo()
        diary.tell(2, BUILD)
        self.assertEqual(told_of(diary), told_of(diary_of([(1, FELL), (2, BUILD)])))

    def test_not_forgotten_where_a_deed_is_refused_or_something_is_asked(self):
        diary = diary_of([(1, FELL), (2, BUILD), (3, STORM)])
        diary.undo()
        for refusal, call in (
            (BadNumber, lambda: diary.tell(0, FELL)), (BadFact, lambda: diary.tell(3, ("fell", 0))),
            (Taken, lambda: diary.tell(2, FELL)), (BadNumber, lambda: diary.strike(401)),
            (NoFact, lambda: diary.strike(3)), (NoFact, lambda: diary.word(3)), (BadNumber, lambda: diary.word(0)),
            (BadNumber, lambda: diary.yard(401)), (NoDeed, lambda: diary.known(3)),
        ):
            self.assert_refused_and_as_it_was(refusal, diary, call)
        self.assertEqual((diary.word(1), diary.yard(3).boats(), diary.known(1).facts()), ("good", [20, 21], [(1, FELL)]))
        diary.redo()
        self.assertEqual(diary.facts(), [(1, FELL), (2, BUILD), (3, STORM)])

    def test_drawn_against_a_plain_diary(self):
        for seed in range(30):
            chance = random.Random(seed)
            diary, plain = Diary(5), PlainDiary(5)
            for _ in range(120):
                day, lot = chance.randint(1, 12), chance.randrange(8)
                fact = chance.choice([FELL, BUILD, STORM, ("clear", 3)])
                facts, at = plain.pages[plain.at][0], plain.at
                if lot < 3 and day in facts:
                    self.assert_refused(Taken, lambda: diary.tell(day, fact))
                elif lot < 3:
                    diary.tell(day, fact)
                    plain.do(("tell", day, fact))
                elif lot < 5 and day not in facts:
                    self.assert_refused(NoFact, lambda: diary.strike(day))
                elif lot < 5:
                    diary.strike(day)
                    plain.do(("strike", day))
                elif lot < 7 and at == 0:
                    self.assert_refused(NoDeed, diary.undo)
                elif lot < 7:
                    diary.undo()
                    plain.at -= 1
                elif at == len(plain.pages) - 1:
                    self.assert_refused(NoDeed, diary.redo)
                else:
                    diary.redo()
                    plain.at += 1
                self.assertEqual(told_of(diary), plain.told())


class WordsAndYards(TheDiary):
    def assert_as_a_new_yard(self, diary, days):
        facts = dict(diary.facts())
        for day in days:
            yard = diary.yard(day)
            self.assertEqual(told(yard), told(yard_that_heard(diary.slip(), diary.facts(), day)))
            self.assertEqual(yard.today(), day)
            if day in facts:
                ahead = Yard(diary.slip())
                for known in sorted(facts):
                    if known < day:
                        ahead.enter(known, facts[known])
                self.assertEqual(diary.word(day), ahead.enter(day, facts[day]))
            else:
                self.assert_refused(NoFact, lambda: diary.word(day))

    def test_told_late(self):
        diary = diary_of([(9, ("refit", (), ((1, 2),))), (12, ("lend", 90, 5))])
        self.assertEqual([diary.word(9), diary.word(12)], ["nothere", "noboat"])
        diary.tell(3, ("fell", 2))
        self.assertEqual([diary.word(9), diary.word(12)], ["good", "good"])
        self.assertEqual(diary.yard(400).owed(90), (5, 1))
        diary.tell(10, ("storm", (1,)))
        self.assertEqual([diary.word(9), diary.word(10), diary.word(12)], ["good", "good", "noboat"])
        diary.strike(3)
        self.assertEqual([diary.word(9), diary.word(10), diary.word(12)], ["nothere", "nothere", "noboat"])
        diary.undo()
        self.assertEqual([diary.word(9), diary.word(10), diary.word(12)], ["good", "good", "noboat"])
        diary.undo()
        self.assertEqual([diary.word(9), diary.word(12)], ["good", "good"])
        self.assert_refused(NoFact, lambda: diary.word(10))
        diary.redo()
        self.assertEqual(diary.word(12), "noboat")

    def test_a_yard_has_passed_on_to_its_day(self):
        diary = diary_of([(5, FELL), (7, BUILD)])
        for day, felled, boats in ((1, 0, []), (4, 0, []), (5, 9, []), (6, 9, []), (7, 9, [70, 71]), (400, 9, [70, 71])):
            yard = diary.yard(day)
            self.assertEqual((yard.today(), yard.slip(), yard.felled(), yard.boats()), (day, 12, felled, boats))

    def test_no_days(self):
        diary = diary_of([(1, FELL), (400, BUILD)])
        for day in NO_DAYS:
            self.assert_refused_and_as_it_was(BadNumber, diary, lambda: diary.word(day))
            self.assert_refused_and_as_it_was(BadNumber, diary, lambda: diary.yard(day))
        self.assertEqual((diary.word(1), diary.word(400)), ("good", "good"))
        self.assert_refused_and_as_it_was(NoFact, diary, lambda: diary.word(399))

    def test_a_later_fact_turns_nothing_on_earlier_days(self):
        chance = random.Random(3)
        facts = drawn_facts(chance, 6, range(2, 60, 2))
        diary = diary_of(facts, 6)
        ahead = [told(diary.yard(day)) for day in range(1, 31)]
        words = [diary.word(day) for day in range(2, 31, 2)]
        diary.tell(31, ("storm", (1, 2)))
        diary.strike(40)
        diary.tell(400, FELL)
        self.assertEqual([told(diary.yard(day)) for day in range(1, 31)], ahead)
        self.assertEqual([diary.word(day) for day in range(2, 31, 2)], words)

    def test_a_told_yard_goes_its_own_way(self):
        diary = diary_of([(1, FELL), (3, BUILD)])
        yard = diary.yard(3)
        self.assertEqual(entered(yard, [("refit", (30, 31), ()), ("fell", 5)]), ["good", "good"])
        self.assertEqual(diary.yard(3).boats(), [30, 31])
        self.assertEqual(diary.yard(5).felled(), 9)
        diary.strike(3)
        self.assertEqual((yard.names(), yard.today()), ([30, 31], 5))
        one, other = diary.yard(2), diary.yard(2)
        one.enter(3, BUILD)
        self.assertEqual((other.boats(), other.today()), ([], 2))

    def test_drawn_told_in_drawn_orders(self):
        for seed in range(12):
            chance = random.Random(seed)
            slip = chance.randint(1, 12)
            days = sorted(chance.sample(range(1, 81), 40))
            facts = drawn_facts(chance, slip, days)
            chance.shuffle(facts)
            diary = Diary(slip)
            for at, (day, fact) in enumerate(facts):
                diary.tell(day, fact)
                # Some of it is asked ahead of the last calls.
                if at % 9 == 0:
                    self.assert_as_a_new_yard(diary, chance.sample(range(1, 90), 4))
            self.assert_as_a_new_yard(diary, list(range(1, 90, 4)) + [400])
            for day in chance.sample(days, 6):
                diary.strike(day)
                self.assert_as_a_new_yard(diary, [day, chance.choice(days)])
            for _ in range(4):
                diary.undo()
            self.assert_as_a_new_yard(diary, chance.sample(range(1, 90), 6))
            diary.redo()
            self.assert_as_a_new_yard(diary, chance.sample(range(1, 90), 6))
            self.assertEqual(told(diary.yard(400)), told(diary_of(diary.facts(), slip).yard(400)))

    def test_against_a_plain_yard(self):
        chance = random.Random(77)
        facts = drawn_facts(chance, 7, range(3, 120, 3))
        chance.shuffle(facts)
        diary = diary_of(facts, 7)
        plain = PlainYard(7)
        for day, fact in sorted(facts):
            self.assertEqual(diary.word(day), plain.enter(day, fact))
        plain.pass_to(400)
        self.assertEqual(told(diary.yard(400)), told(plain))


class Known(TheDiary):
    def diary(self):
        diary = diary_of([(5, BUILD), (1, FELL), (7, STORM)])
        diary.strike(1)
        diary.tell(1, ("fell", 3))
        diary.tell(9, STORM)
        diary.undo()
        return diary

    def test_none_all_and_some_between(self):
        diary = self.diary()
        wished = [
            [], [(5, BUILD)], [(1, FELL), (5, BUILD)], [(1, FELL), (5, BUILD), (7, STORM)], [(5, BUILD), (7, STORM)],
            [(1, ("fell", 3)), (5, BUILD), (7, STORM)],
        ]
        for many, facts in enumerate(wished):
            known = diary.known(many)
            self.assertIsInstance(known, Diary)
            # There is nothing to do again in it, whatever was taken back in the first one.
            self.assertEqual(told_of(known), (12, diary.deeds()[:many], facts, []))
            self.assert_refused(NoDeed, known.redo)

    def test_so_many_deeds_are_not_there(self):
        diary = self.diary()
        for many in (-1, -2, -5, 6, 7, BIG, -BIG):
            self.assert_refused_and_as_it_was(NoDeed, diary, lambda: diary.known(many))
        self.assert_refused(NoDeed, lambda: Diary(1).known(1), lambda: Diary(1).known(-1))
        self.assertEqual(told_of(Diary(1).known(0)), (1, [], [], []))

    def test_each_goes_its_own_way(self):
        diary = self.diary()
        ahead = told_of(diary)
        known = diary.known(3)
        known.strike(5)
        known.undo()
        known.undo()
        known.tell(400, FELL)
        self.assertEqual(told_of(diary), ahead)
        other = diary.known(5)
        diary.redo()
        diary.strike(5)
        diary.undo()
        diary.undo()
        diary.undo()
        self.assertEqual(other.facts(), [(1, ("fell", 3)), (5, BUILD), (7, STORM)])
        self.assertEqual(known.facts(), [(1, FELL), (5, BUILD), (400, FELL)])

    def test_asked_again_behind_further_deeds(self):
        diary = diary_of([(1, FELL), (2, BUILD)])
        self.assertEqual(diary.known(2).facts(), [(1, FELL), (2, BUILD)])
        diary.undo()
        self.assert_refused(NoDeed, lambda: diary.known(2))
        diary.tell(3, STORM)
        self.assertEqual(diary.known(2).facts(), [(1, FELL), (3, STORM)])
        self.assertEqual(diary.known(1).facts(), [(1, FELL)])

    def test_its_deeds_can_be_taken_back(self):
        known = self.diary().known(4)
        known.undo()
        self.assertEqual(known.facts(), [(1, FELL), (5, BUILD), (7, STORM)])
        known.redo()
        self.assertEqual(known.facts(), [(5, BUILD), (7, STORM)])
        self.assertEqual(known.word(5), "nothere")


class Twins(TheDiary):
    def test_alike_in_all_things(self):
        diary = diary_of([(1, FELL), (2, BUILD), (3, STORM)], 5)
        diary.strike(3)
        diary.undo()
        diary.undo()
        twin = diary.twin()
        self.assertIsInstance(twin, Diary)
        self.assertEqual(told_of(twin), told_of(diary))
        self.assertEqual(told_of(twin)[3], [("tell", 3, STORM), ("strike", 3)])
        self.assertEqual(told(twin.yard(9)), told(diary.yard(9)))

    def test_each_goes_its_own_way(self):
        diary = diary_of([(1, FELL), (2, BUILD), (3, STORM)], 5)
        diary.undo()
        twin, ahead = diary.twin(), told_of(diary)
        twin.tell(9, STORM)
        self.assertEqual(told_of(diary), ahead)
        diary.redo()
        self.assertEqual(diary.facts(), [(1, FELL), (2, BUILD), (3, STORM)])
        self.assertEqual(twin.facts(), [(1, FELL), (2, BUILD), (9, STORM)])
        self.assert_refused(NoDeed, twin.redo)
        again = diary.twin()
        again.undo()
        diary.strike(1)
        self.assertEqual(again.facts(), [(1, FELL), (2, BUILD)])
        again.redo()
        self.assertEqual(again.facts(), [(1, FELL), (2, BUILD), (3, STORM)])

    def test_two_made_apart_share_nothing(self):
        one, other = Diary(5), Diary(5)
        one.tell(1, FELL)
        one.undo()
        self.assertEqual(told_of(other), (5, [], [], []))
        other.tell(2, BUILD)
        one.redo()
        self.assertEqual((one.facts(), other.facts()), ([(1, FELL)], [(2, BUILD)]))


class ManyFacts(TheDiary):
    def test_a_fact_for_each_day(self):
        chance = random.Random(400)
        facts = drawn_facts(chance, 12, range(1, 401))
        late = list(facts)
        chance.shuffle(late)
        diary = diary_of(late)
        self.assertEqual(diary.facts(), facts)
        for day in (1, 2, 100, 190, 399, 400):
            self.assertEqual(told(diary.yard(day)), told(yard_that_heard(12, facts, day)))
            self.assert_refused(Taken, lambda: diary.tell(day, FELL))
        yard = Yard(12)
        words = [yard.enter(day, fact) for day, fact in facts]
        for day in range(1, 401, 19):
            self.assertEqual(diary.word(day), words[day - 1])
        for many in (0, 1, 190, 400):
            self.assertEqual(diary.known(many).facts(), sorted(late[:many]))

    def test_many_deeds_there_and_back(self):
        chance = random.Random(190)
        diary = Diary(9)
        yard = Yard(9)
        for day in range(1, 191):
            fact = some_fact(chance, yard)
            yard.enter(day, fact)
            diary.tell(day, ("fell", 1))
            diary.strike(day)
            diary.tell(day, fact)
        self.assertEqual(told(diary.yard(190)), told(yard))
        for _ in range(300):
            diary.undo()
        self.assertEqual(len(diary.facts()), 90)
        for _ in range(300):
            diary.redo()
        self.assertEqual(told(diary.yard(190)), told(yard))


if __name__ == "__main__":
    unittest.main()

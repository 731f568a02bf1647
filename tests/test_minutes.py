"""Points 1, 2, 19 and 20, and the interface's section argosy/minutes.py."""

import random
import unittest

from argosy.diary import Diary
from argosy.errors import ArgosyError, BadText, NoDeed
from argosy.minutes import read_minutes, written
from argosy.words import shown
from tests.plain import BIG, Refusing, diary_of, drawn_facts, told, told_of

FACTS = (
    (1, ("fell", 9), "tell 1 fell 9"),
    (400, ("refit", (10, 31), ((4, 2, 9), (7,))), "tell 400 refit 10 31 / 4 2 9 / 7"),
    (3, ("refit", (), ((1,),)), "tell 3 refit / 1"),
    (4, ("refit", (10,), ()), "tell 4 refit 10"),
    (5, ("storm", (9, 2)), "tell 5 storm 9 2"),
    (6, ("find", (60,)), "tell 6 find 60"),
    (7, ("lend", 4007, 1000000), "tell 7 lend 4007 1000000"),
    (8, ("pay", 10, 1), "tell 8 pay 10 1"),
    (9, ("clear", 60), "tell 9 clear 60"),
)
TEXT = "yard 4\ntell 3 refit / 1 2\ntell 1 fell 20\nstrike 3\ntell 3 refit / 10 2 / 7"


class Minutes(Refusing):
    def assert_there_and_back(self, diary):
        text = written(diary)
        self.assertIs(type(text), str)
        read = read_minutes(text)
        self.assertIsInstance(read, Diary)
        # The same slip and deeds, and nothing that was taken back.
        self.assertEqual(told_of(read), told_of(diary)[:3] + ([],))
        self.assertEqual(written(read), text)
        return text

    def assert_refused_texts(self, *texts):
        for text in texts:
            with self.subTest(text):
                self.assert_refused(BadText, lambda: read_minutes(text))


class Written(Minutes):
    def test_no_deed(self):
        for slip in range(1, 13):
            self.assertEqual(self.assert_there_and_back(Diary(slip)), f"yard {slip}")

    def test_each_word(self):
        diary = Diary(5)
        for day, fact, _ in FACTS:
            diary.tell(day, fact)
        self.assertEqual(self.assert_there_and_back(diary), "\n".join(["yard 5"] + [row for _, _, row in FACTS]))

    def test_tells_and_strikes_in_their_order(self):
        diary = diary_of([(7, ("fell", 1)), (2, ("clear", 5))], 1)
        diary.strike(7)
        diary.tell(7, ("storm", (3, 1)))
        diary.strike(2)
        self.assertEqual(
            self.assert_there_and_back(diary), "yard 1\ntell 7 fell 1\ntell 2 clear 5\nstrike 7\ntell 7 storm 3 1\nstrike 2")

    def test_what_was_taken_back_is_left_out(self):
        diary = diary_of([(7, ("fell", 1)), (2, ("clear", 5))], 3)
        diary.strike(7)
        diary.undo()
        ahead = told_of(diary)
        self.assertEqual(self.assert_there_and_back(diary), "yard 3\ntell 7 fell 1\ntell 2 clear 5")
        self.assertEqual(told_of(diary), ahead)
        diary.undo()
        diary.undo()
        self.assertEqual(self.assert_there_and_back(diary), "yard 3")
        diary.redo()
        self.assertEqual(self.assert_there_and_back(diary), "yard 3\ntell 7 fell 1")

    def test_drawn(self):
        for seed in range(12):
            chance = random.Random(seed)
            slip = chance.randint(1, 12)
            facts = drawn_facts(chance, slip, sorted(chance.sample(range(1, 401), 60)))
            chance.shuffle(facts)
            diary = diary_of(facts, slip)
            for day, fact in facts[:10]:
                diary.strike(day)
            for day, fact in facts[5:8]:
                diary.tell(day, fact)
            for _ in range(2):
                diary.undo()
            text = self.assert_there_and_back(diary)
            self.assertEqual(told(read_minutes(text).yard(400)), told(diary.yard(400)))

    def test_a_fact_for_each_day(self):
        facts = drawn_facts(random.Random(400), 12, range(1, 401))
        text = self.assert_there_and_back(diary_of(facts[::-1]))
        self.assertEqual(text.split("\n"), ["yard 12"] + [f"tell {day} {shown(fact)}" for day, fact in facts[::-1]])


class Read(Minutes):
    def test_a_diary_of_its_own(self):
        one, other = read_minutes(TEXT), read_minutes(TEXT)
        self.assertEqual(one.facts(), [(1, ("fell", 20)), (3, ("refit", (), ((10, 2), (7,))))])
        self.assert_refused(NoDeed, one.redo)
        one.undo()
        one.tell(400, ("clear", 1))
        self.assertEqual(other.facts(), [(1, ("fell", 20)), (3, ("refit", (), ((10, 2), (7,))))])
        self.assertEqual(written(other), TEXT)

    def test_its_deeds_can_be_taken_back(self):
        diary = read_minutes(TEXT)
        for many in (3, 2, 1, 0):
            diary.undo()
            self.assertEqual(len(diary.deeds()), many)
        self.assert_refused(NoDeed, diary.undo)

    def test_idle_facts_may_stand_there(self):
        diary = read_minutes("yard 1\ntell 5 storm 60\ntell 4 refit 4007")
        self.assertEqual((diary.word(5), diary.word(4)), ("nothere", "noboat"))


class NotSoMade(Minutes):
    def test_the_first_row(self):
        self.assert_refused_texts(
            "", "\n", "yard", "yard ", "yard  4", " yard 4", "yard 4 ", "yard 4 4", "yard 04", "yard -4", "yard four", "Yard 4",
            "yards 4", "4", "4 yard", "yard4", "yard 4\n", "\nyard 4", "yard\n4", "tell 1 fell 9", "strike 1", "yard +4", "yard /")

    def test_a_slip_that_is_none(self):
        self.assert_refused_texts("yard 0", "yard 13", "yard 00", f"yard {BIG}", "yard 13\ntell 1 fell 9")
        self.assertEqual([read_minutes(f"yard {slip}").slip() for slip in (1, 12)], [1, 12])

    def test_rows_left_out_twice_and_exchanged(self):
        rows = TEXT.split("\n")
        self.assertEqual(written(read_minutes("\n".join(rows))), TEXT)
        self.assert_refused_texts("\n".join(rows[1:]))
        # Without the strike, or the tell ahead of it, the deed behind it is refused.
        self.assert_refused_texts("\n".join(rows[:3] + rows[4:]), "\n".join(rows[:1] + rows[2:]))
        for at in range(len(rows)):
            self.assert_refused_texts("\n".join(rows[:at + 1] + rows[at:]))
        self.assert_refused_texts("\n".join([rows[1], rows[0]] + rows[2:]))
        self.assert_refused_texts("\n".join(rows[:3] + [rows[4], rows[3]]))
        self.assert_refused_texts("\n".join(rows[:1] + [rows[3], rows[1], rows[2]]))
        # The second and the third may stand in either order: then it is another text of other minutes.
        other = "\n".join([rows[0], rows[2], rows[1]] + rows[3:])
        self.assertEqual(written(read_minutes(other)), other)

    def test_empty_rows_and_line_feeds(self):
        rows = TEXT.split("\n")
        for at in range(len(rows) + 1):
            self.assert_refused_texts("\n".join(rows[:at] + [""] + rows[at:]))
        self.assert_refused_texts(TEXT + "\n", "\n" + TEXT, TEXT + "\n\n", TEXT.replace("\n", " "), TEXT.replace(" ", "\n"))

    def test_a_sign_too_many_at_any_place(self):
        for at in range(len(TEXT) + 1):
            for sign in " \n/-+.":
                self.assert_refused_texts(TEXT[:at] + sign + TEXT[at:])

    def test_a_nought_ahead_of_any_number(self):
        for at in range(1, len(TEXT)):
            if TEXT[at].isdigit() and TEXT[at - 1] == " ":
                self.assert_refused_texts(TEXT[:at] + "0" + TEXT[at:])

    def test_other_rows(self):
        for row in (
            "yard 4", "undo", "redo", "word 1", "boats 1", "tell", "tell 9", "tell 9 ", "strike", "strike 1 1", "strike 1 fell 20",
            "tell fell 9", "fell 9", "9 fell 9", "told 9 fell 9", "tell 9 felled 9", "tell 9 fell", "tell 9 fell 9 9",
            "tell 9 refit", "tell 9 refit /", "tell 9 storm", "tell 9 lend 30", "tell 9 tell 9 fell 9", "tell 9 strike 1",
            "Tell 9 fell 9", "tell -9 fell 9", "strike -1", "tell 9 fell -9", "tell 9  fell 9", " tell 9 fell 9",
            "tell 9 fell 9 ", "strike 1 ", " strike 1", "strike  1", "# nothing",
        ):
            self.assert_refused_texts(f"{TEXT}\n{row}", f"yard 4\n{row}")

    def test_numbers_and_deeds_that_are_refused(self):
        for row in (
            "tell 0 fell 9", "tell 401 fell 9", f"tell {BIG} fell 9", "tell 9 fell 0", "tell 9 fell 61", f"tell 9 fell {BIG}",
            "tell 9 refit / 1 2 3 4 5", "tell 9 refit / 1 1", "tell 9 refit 9", "tell 9 refit 10 10", "tell 9 storm 1 1",
            "tell 9 find 0", "tell 9 lend 9 1", "tell 9 pay 10 1000001", "tell 9 clear 61", "tell 1 fell 9", "tell 3 fell 9",
            "tell 1 fell 0", "strike 0", "strike 401", f"strike {BIG}", "strike 2", "strike 400",
        ):
            self.assert_refused_texts(f"{TEXT}\n{row}")

    def test_drawn_rows(self):
        chance = random.Random(20)
        words = ["yard", "tell", "strike", "fell", "refit", "storm", "lend", "/", "", "0", "1", "2", "3", "10", "401", "\n", "\n"]
        read = 0
        for _ in range(20000):
            text = " ".join(chance.choice(words) for _ in range(chance.randint(1, 7))).replace(" \n ", "\n")
            text = text if chance.randrange(3) == 0 else f"yard 3\n{text}"
            try:
                diary = read_minutes(text)
            except ArgosyError as refusal:
                self.assertIs(type(refusal), BadText)
            else:
                # What is read is just what would be written.
                self.assertEqual(written(diary), text)
                read += 1
        self.assertGreater(read, 5)


if __name__ == "__main__":
    unittest.main()

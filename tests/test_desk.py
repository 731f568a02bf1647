"""Points 1, 2, 19 and 21, and the interface's section argosy/desk.py."""

import random
import re
import unittest

from argosy.carry import fewest
from argosy.desk import Desk
from argosy.diary import Diary
from argosy.errors import ArgosyError, BadNumber
from argosy.rivals import gathered
from argosy.words import read_fact, shown
from tests.plain import BIG, Refusing, drawn_facts, some_fact, told_of

NUMBER = "(?:0|[1-9][0-9]*)"
TIMBER = "(?:[1-9]|[1-5][0-9]|60)"
FACT = (
    f"(?:fell {NUMBER}|clear {NUMBER}|lend {NUMBER} {NUMBER}|pay {NUMBER} {NUMBER}|storm(?: {NUMBER})+|find(?: {NUMBER})+"
    f"|refit(?: {NUMBER})+(?: /(?: {NUMBER})+)*|refit(?: /(?: {NUMBER})+)+)"
)
LINE = (
    f"tell {NUMBER} {FACT}|(?:strike|word|boats) {NUMBER}|undo|redo|(?:boat|where|owed|gathered) {NUMBER} {NUMBER}"
    f"|carry {NUMBER} {NUMBER} /(?: {TIMBER})+"
)
LINES = (
    "tell 9 fell 3", "tell 10 refit 20 21 / 1 2 9 / 4", "tell 11 storm 3 4", "tell 12 lend 20 7", "strike 2", "undo", "redo",
    "word 2", "boats 5", "boat 5 20", "where 5 1", "owed 5 20", "gathered 5 20", "carry 5 20 / 1 2 9",
)


def told_by(desk):
    return told_of(desk.now())


def plain_answer(diary, line):
    """The answer to a line that is well made, out of the diary and its yard; it is told what the line tells."""
    word, *words = line.split(" ")
    numbers = [int(one) for one in words if one.isdigit()]
    if word == "tell":
        diary.tell(numbers[0], read_fact(" ".join(words[1:])))
        return "told " + diary.word(numbers[0])
    if word == "strike":
        diary.strike(numbers[0])
        return f"struck {numbers[0]}"
    if word in ("undo", "redo"):
        getattr(diary, word)()
        return word[:-1] + "one"
    if word == "word":
        return diary.word(numbers[0])
    yard = diary.yard(numbers[0])
    if word == "boats":
        return " ".join(map(str, yard.boats())) or "none"
    if word == "boat":
        return " ".join(map(str, yard.boat(numbers[1])))
    if word == "where":
        return " ".join(map(str, yard.place(numbers[1])))
    if word == "owed":
        return "/".join(map(str, yard.owed(numbers[1]))).removesuffix("/1")
    told = gathered(yard, numbers[1]) if word == "gathered" else fewest(yard.boat(numbers[1]), numbers[2:], diary.slip())
    return "none" if told is None else str(told)


class Desks(Refusing):
    def assert_lines(self, desk, *lines_and_answers):
        for line, wished in lines_and_answers:
            answer = desk.line(line)
            self.assertEqual((line, answer), (line, wished))
            self.assertIs(type(answer), str)

    def assert_refusals(self, desk, *lines_and_words):
        """Behind a refusal all is as it was, what can be done again too."""
        for line, word in lines_and_words:
            ahead = told_by(desk)
            self.assert_lines(desk, (line, f"refused {word}"))
            self.assertEqual(told_by(desk), ahead)

    def desk(self):
        """A desk with two boats, and with something to do again."""
        desk = Desk(4)
        self.assert_lines(
            desk, ("tell 2 refit / 1 2 3 / 4 5", "told nothere"), ("tell 1 fell 20", "told good"), ("word 2", "good"),
            ("tell 4 lend 20 7", "told good"), ("tell 6 refit 20 / 3 9", "told good"), ("tell 8 storm 9 10", "told good"),
            ("undo", "undone"))
        return desk


class EachWord(Desks):
    def test_tell_and_word(self):
        desk = Desk(3)
        self.assert_lines(
            desk, ("tell 5 refit / 1 2", "told nothere"), ("word 5", "nothere"), ("tell 400 fell 60", "told good"),
            ("tell 1 fell 3", "told good"), ("word 5", "good"), ("word 400", "full"), ("tell 6 refit 50 / 9", "told nothere"),
            ("tell 7 pay 50 3", "told toomuch"), ("tell 8 pay 51 3", "told noboat"), ("tell 9 clear 3", "told nothing"),
            ("tell 10 find 3", "told nothere"), ("tell 11 lend 50 1000000", "told good"))

    def test_strike_undo_and_redo(self):
        desk = Desk(3)
        self.assert_lines(
            desk, ("undo", "refused nodeed"), ("redo", "refused nodeed"), ("tell 7 fell 3", "told good"),
            ("strike 7", "struck 7"), ("strike 7", "refused nofact"), ("word 7", "refused nofact"), ("undo", "undone"),
            ("word 7", "good"), ("redo", "redone"), ("redo", "refused nodeed"), ("tell 7 fell 1", "told good"),
            ("undo", "undone"), ("undo", "undone"), ("undo", "undone"), ("undo", "refused nodeed"), ("redo", "redone"),
            ("strike 7", "struck 7"), ("redo", "refused nodeed"))

    def test_boats_and_boat(self):
        desk = self.desk()
        self.assert_lines(
            desk, ("boats 1", "none"), ("boats 2", "20 21"), ("boats 5", "20 21"), ("boats 6", "21 60"), ("boats 400", "21 60"),
            ("boat 2 20", "1 2 3"), ("boat 5 21", "4 5"), ("boat 6 60", "3 9"), ("boat 6 20", "refused noboat"))

    def test_where(self):
        desk = self.desk()
        desk.line("redo")
        self.assert_lines(
            desk, ("where 1 3", "loose"), ("where 2 3", "boat 20"), ("where 6 3", "boat 60"), ("where 6 1", "loose"),
            ("where 7 9", "boat 60"), ("where 8 9", "lost"), ("where 8 3", "loose"), ("where 400 10", "lost"),
            ("where 1 21", "refused notimber"), ("where 1 0", "refused notimber"), ("where 1 20", "loose"))

    def test_owed(self):
        desk = self.desk()
        self.assert_lines(
            desk, ("owed 2 20", "0"), ("owed 4 20", "7"), ("owed 5 21", "0"), ("owed 6 20", "0"), ("owed 6 60", "7/3"),
            ("tell 7 lend 60 2", "told good"), ("owed 7 60", "13/3"), ("owed 6 60", "7/3"), ("tell 9 pay 60 4", "told good"),
            ("owed 9 60", "1/3"), ("owed 400 60", "1/3"), ("owed 3 60", "refused noname"))

    def test_gathered(self):
        desk = self.desk()
        self.assert_lines(
            desk, ("gathered 2 20", "20"), ("gathered 6 20", "none"), ("gathered 6 60", "60"), ("gathered 6 21", "21"),
            ("tell 7 refit 60 / 1 2 9", "told good"), ("gathered 7 20", "70"), ("gathered 7 60", "none"),
            ("gathered 5 60", "refused noname"), ("gathered 1 20", "refused noname"))

    def test_carry(self):
        desk = self.desk()
        self.assert_lines(
            desk, ("carry 2 20 / 1 2 3", "0"), ("carry 2 20 / 3 2 1 3 3", "0"), ("carry 2 20 / 9 1 2", "1"),
            ("carry 2 20 / 60 3 59", "2"), ("carry 2 21 / 60", "none"), ("carry 2 20 / 60", "none"), ("carry 6 60 / 3", "none"),
            ("carry 6 20 / 1", "refused noboat"), ("carry 2 20 / 1 2 3 4 5", "refused badfleet"),
            ("carry 2 20 / 1 1 2 2 3 3 4 4", "1"))

    def test_carry_by_the_boat_of_that_day(self):
        desk = Desk(3)
        self.assert_lines(
            desk, ("tell 1 fell 9", "told good"), ("tell 2 refit / 1 2 3", "told good"), ("tell 5 refit 20 / 2 3 4", "told good"),
            ("carry 4 20 / 3 4 5", "2"), ("carry 5 20 / 3 4 5", "1"), ("carry 400 20 / 2 3 4", "0"))


class Refusals(Desks):
    def test_each(self):
        self.assert_refusals(
            self.desk(), ("tell 0 fell 1", "badnumber"), ("tell 401 fell 1", "badnumber"), ("tell 9 fell 0", "badfact"),
            ("tell 2 fell 1", "taken"), ("strike 0", "badnumber"), ("strike 401", "badnumber"), ("strike 3", "nofact"),
            ("word 0", "badnumber"), ("word 401", "badnumber"), ("word 3", "nofact"), ("word 8", "nofact"),
            ("boats 0", "badnumber"), ("boats 401", "badnumber"), ("boat 0 20", "badnumber"), ("boat 2 22", "noboat"),
            ("where 401 1", "badnumber"), ("where 9 21", "notimber"), ("owed 0 20", "badnumber"), ("owed 9 22", "noname"),
            ("gathered 401 20", "badnumber"), ("gathered 9 22", "noname"), ("carry 401 20 / 1", "badnumber"),
            ("carry 9 20 / 1", "noboat"), ("carry 9 21 / 1 2 3 4 5", "badfleet"), ("well", "badtext"), ("", "badtext"))

    def test_numbers_of_thirty_figures(self):
        self.assert_refusals(
            self.desk(), (f"tell {BIG} fell 1", "badnumber"), (f"tell 9 fell {BIG}", "badfact"), (f"strike {BIG}", "badnumber"),
            (f"word {BIG}", "badnumber"), (f"boats {BIG}", "badnumber"), (f"boat 2 {BIG}", "noboat"),
            (f"where 2 {BIG}", "notimber"), (f"owed 2 {BIG}", "noname"), (f"gathered 2 {BIG}", "noname"),
            (f"carry 2 {BIG} / 1", "noboat"), (f"carry 2 20 / {BIG}", "badtext"))

    def test_numbers_that_are_no_names_or_timbers(self):
        self.assert_refusals(
            self.desk(), ("boat 2 0", "noboat"), ("owed 2 0", "noname"), ("gathered 2 9", "noname"), ("where 2 0", "notimber"),
            ("where 2 61", "notimber"), ("carry 2 0 / 1", "noboat"), ("boat 2 4008", "noboat"))

    def test_which_one_goes_first(self):
        self.assert_refusals(
            self.desk(), ("tell 0 fell 0", "badnumber"), ("tell 2 fell 0", "badfact"), ("boat 0 0", "badnumber"),
            ("where 0 0", "badnumber"), ("owed 401 0", "badnumber"), ("gathered 401 0", "badnumber"),
            ("carry 0 0 / 1 2 3 4 5", "badnumber"), ("carry 0 20 / 1 2 3 4 5", "badnumber"), ("carry 2 0 / 1 2 3 4 5", "noboat"),
            ("carry 0 0 / 0", "badtext"), ("carry 2 0 / 61", "badtext"), ("carry 401 20 / 1 2 3 4 5 61", "badtext"),
            ("tell 0 felled 0", "badtext"), ("tell 2 fell", "badtext"), ("strike 00", "badtext"), ("boat 0 x", "badtext"),
            ("boats 0 0", "badtext"), ("undo 1", "badtext"))

    def test_by_the_slip(self):
        for slip in range(1, 13):
            desk = Desk(slip)
            timbers = [str(timber) for timber in range(1, slip + 2)]
            self.assert_refusals(desk, (f"tell 2 refit / {' '.join(timbers)}", "badfact"))
            self.assert_lines(
                desk, ("tell 1 fell 20", "told good"), (f"tell 2 refit / {' '.join(timbers[1:])}", "told good"),
                (f"carry 2 20 / {' '.join(timbers[1:])}", "0"))
            self.assert_refusals(desk, (f"carry 2 20 / {' '.join(timbers)}", "badfleet"))

    def test_what_can_be_done_again_stays(self):
        desk = self.desk()
        for line in ("tell 0 fell 1", "tell 2 fell 1", "tell 9 fell 0", "strike 3", "tell 9", "boats 0", "word 3", "undone", ""):
            desk.line(line)
        self.assert_lines(desk, ("redo", "redone"), ("word 8", "good"), ("redo", "refused nodeed"))

    def test_no_slip(self):
        for slip in (0, -1, 13, 14, -12, BIG, -BIG):
            self.assert_refused(BadNumber, lambda: Desk(slip))
        self.assertEqual([Desk(slip).now().slip() for slip in range(1, 13)], list(range(1, 13)))


class NotSoMade(Desks):
    def assert_bad(self, *lines):
        desk = self.desk()
        self.assert_refusals(desk, *[(line, "badtext") for line in lines])

    def test_another_first_word(self):
        self.assert_bad(
            "told 9 fell 1", "Tell 9 fell 1", "fell 9", "yard 4", "boat", "boatss 1", "now", "chain 2 20", "9", "/", "refit 20",
            "tell", "tel 9 fell 1", "UNDO", "line undo", "none", "known 1", "facts", "deeds", "slip", "twin")

    def test_words_more_or_fewer(self):
        for line in LINES:
            words = line.split(" ")
            if words[0] not in ("tell", "carry"):
                self.assert_bad(line + " 1", " ".join(words[:-1]))
        self.assert_bad(
            "tell 9", "tell fell 1", "tell 9 fell", "tell 9 fell 1 1", "tell 9 refit", "tell 9 refit /", "tell 9 refit 20 / 1 /",
            "tell 9 refit // 1", "tell 9 storm", "tell 9 find", "tell 9 lend 20", "tell 9 lend 20 1 1", "tell 9 clear",
            "tell 9 pay 20", "tell 9 wreck 1", "tell 9 9 fell 1", "tell 9 tell 9 fell 1", "strike", "strike 1 2", "strike 1 fell 20")

    def test_of_carry(self):
        self.assert_bad(
            "carry", "carry 2", "carry 2 20", "carry 2 20 /", "carry 2 20 / ", "carry 2 20 1 2 3", "carry 2 20 1 / 2 3", "carry 2 / 1",
            "carry / 1", "carry 2 20 / 1 / 2", "carry 2 20 / / 1", "carry 2 20 / 0", "carry 2 20 / 61", "carry 2 20 / 1 61 2",
            "carry 2 20 / 1 0", "carry 2 20 / 01", "carry 2 20 / x", "carry 2 20/ 1", "carry 2 20 /1", "carry 2 x / 1",
            "carry x 20 / 1", "carry 2 20 / -1", f"carry 2 20 / {BIG}", "carry 2 20 20 / 1")
        self.assert_lines(self.desk(), ("carry 2 20 / 1 60 2", "1"))

    def test_numbers_not_so_written(self):
        for number in ("00", "01", "-1", "+1", "1.0", "1_0", "x", "one", "0x1", "1e1", "/", "#", "1,", "^2"):
            self.assert_bad(
                f"tell {number} fell 1", f"tell 9 fell {number}", f"tell 9 refit / {number}", f"strike {number}", f"word {number}",
                f"boats {number}", f"boat {number} 20", f"boat 2 {number}", f"where {number} 1", f"where 2 {number}",
                f"owed {number} 20", f"owed 2 {number}", f"gathered {number} 20", f"gathered 2 {number}",
                f"carry {number} 20 / 1", f"carry 2 {number} / 1", f"carry 2 20 / {number}")

    def test_no_sign_and_blanks_and_line_feeds(self):
        self.assert_bad("", " ", "  ", "\n", "\n\n", " \n")
        for line in LINES:
            self.assert_bad(" " + line, line + " ", "\n" + line, line + "\n", line + "\nundo", "undo\n" + line)
            for at, sign in enumerate(line):
                if sign == " ":
                    self.assert_bad(line[:at] + " " + line[at:], line[:at] + "\n" + line[at + 1:], line[:at] + "\n" + line[at:])

    def test_a_sign_more_or_less_at_any_place(self):
        for line in LINES:
            for at in range(len(line) + 1):
                others = [line[:at] + sign + line[at:] for sign in " /0\n-xZ~"] + [line[:at] + line[at + 1:]]
                for other in others:
                    wished = re.fullmatch(LINE, other) is None
                    self.assertEqual((other, self.desk().line(other) == "refused badtext"), (other, wished))

    def test_drawn_rows_of_words(self):
        chance = random.Random(21)
        words = "tell strike undo redo word boats boat where owed gathered carry fell refit storm lend / 0 1 2 5 9 20 61".split()
        made = 0
        for _ in range(4000):
            line = " ".join(chance.choice(words) for _ in range(chance.randint(1, 6)))
            well = re.fullmatch(LINE, line) is not None
            made += well
            self.assertEqual((line, self.desk().line(line) == "refused badtext"), (line, not well))
        self.assertGreater(made, 100)


class AsTheDiaryTells(Desks):
    def some_line(self, chance, diary):
        day = chance.choice([0, 401, *range(1, 41), *range(1, 41)])
        yard = diary.yard(min(max(day, 1), 400))
        name = chance.choice(yard.names() + yard.boats() + [0, 10, 4007])
        timber = chance.randint(0, 61)
        goal = " ".join(str(chance.choice((yard.loose() or [1]) + [60, 1, 2, 3])) for _ in range(chance.randint(1, 6)))
        return chance.choice([
            f"tell {day} {shown(some_fact(chance, yard))}", f"tell {day} {shown(some_fact(chance, yard))}",
            f"tell {day} fell {chance.choice([0, 1, 20, 61])}", f"strike {day}", "undo", "undo", "redo", f"word {day}",
            f"boats {day}", f"boat {day} {name}", f"where {day} {timber}", f"owed {day} {name}", f"gathered {day} {name}",
            f"carry {day} {name} / {goal}",
        ])

    def test_drawn_lines(self):
        seen = set()
        for seed in range(25):
            chance = random.Random(seed)
            slip = chance.randint(2, 6)
            desk, diary = Desk(slip), Diary(slip)
            for _ in range(150):
                line = self.some_line(chance, diary)
                try:
                    wished = plain_answer(diary, line)
                except ArgosyError as refusal:
                    wished = "refused " + type(refusal).__name__.lower()
                self.assert_lines(desk, (line, wished))
                seen.add(wished if wished.startswith("refused") else line.split(" ")[0])
            self.assertEqual(told_by(desk), told_of(diary))
        refusals = "badnumber badfact badfleet taken nofact nodeed noboat noname notimber".split()
        words = "tell strike undo redo word boats boat where owed gathered carry".split()
        self.assertEqual(seen, {f"refused {word}" for word in refusals} | set(words))

    def test_many_facts(self):
        chance = random.Random(190)
        facts = drawn_facts(chance, 12, sorted(chance.sample(range(1, 401), 200)))
        late = list(facts)
        chance.shuffle(late)
        desk, diary = Desk(12), Diary(12)
        for day, fact in late:
            diary.tell(day, fact)
            self.assert_lines(desk, (f"tell {day} {shown(fact)}", f"told {diary.word(day)}"))
        for day in range(1, 401, 23):
            yard = diary.yard(day)
            lines = [f"boats {day}", f"where {day} 7", f"where {day} 60"]
            lines += [f"{word} {day} {name}" for name in yard.boats() for word in ("boat", "owed", "gathered")]
            for line in lines:
                try:
                    self.assert_lines(desk, (line, plain_answer(diary, line)))
                except ArgosyError as refusal:
                    self.assert_lines(desk, (line, "refused " + type(refusal).__name__.lower()))


class Apart(Desks):
    def test_now_tells_a_twin_that_goes_its_own_way(self):
        desk = self.desk()
        now, ahead = desk.now(), told_by(desk)
        self.assertIsInstance(now, Diary)
        self.assertEqual(told_of(now), ahead)
        self.assertEqual(told_of(now)[3], [("tell", 8, ("storm", (9, 10)))])
        now.strike(1)
        now.undo()
        now.undo()
        self.assertEqual(told_by(desk), ahead)
        self.assert_lines(desk, ("redo", "redone"), ("strike 4", "struck 4"))
        self.assertEqual([day for day, _ in now.facts()], [1, 2, 4])

    def test_two_desks_side_by_side(self):
        one, other = Desk(4), Desk(4)
        self.assert_lines(one, ("tell 1 fell 9", "told good"), ("tell 2 refit / 1 2", "told good"))
        self.assert_lines(
            other, ("undo", "refused nodeed"), ("boats 2", "none"), ("tell 2 refit / 1 2", "told nothere"), ("word 2", "nothere"))
        self.assert_lines(one, ("undo", "undone"), ("boats 2", "none"))
        self.assert_lines(other, ("redo", "refused nodeed"), ("tell 1 fell 3", "told good"), ("boats 2", "20"))
        self.assert_lines(one, ("redo", "redone"), ("where 2 9", "loose"))
        self.assert_lines(other, ("where 2 9", "refused notimber"))


if __name__ == "__main__":
    unittest.main()

"""Points 1, 2 and 19 and the interface's section argosy/words.py."""

import itertools
import unittest

from argosy.errors import ArgosyError, BadText
from argosy.words import number, read_fact, shown

BIG = 10 ** 30 - 1

# Facts that can be written, and their texts; not all of them are sound.
WRITTEN = (
    (("fell", 1), "fell 1"),
    (("fell", 60), "fell 60"),
    (("fell", 0), "fell 0"),
    (("fell", BIG), "fell " + "9" * 30),
    (("clear", 7), "clear 7"),
    (("clear", 0), "clear 0"),
    (("lend", 10, 500), "lend 10 500"),
    (("lend", 0, 0), "lend 0 0"),
    (("lend", 4007, 1000001), "lend 4007 1000001"),
    (("pay", 31, 7), "pay 31 7"),
    (("pay", 7, 31), "pay 7 31"),
    (("storm", (3,)), "storm 3"),
    (("storm", (9, 2, 40)), "storm 9 2 40"),
    (("storm", (5, 5)), "storm 5 5"),
    (("storm", (0, 61, BIG)), "storm 0 61 " + "9" * 30),
    (("find", (3,)), "find 3"),
    (("find", (60, 1)), "find 60 1"),
    (("find", tuple(range(100))), "find " + " ".join(str(one) for one in range(100))),
    (("refit", (10, 31), ((4, 2, 9), (7,))), "refit 10 31 / 4 2 9 / 7"),
    (("refit", (), ((1,),)), "refit / 1"),
    (("refit", (10,), ()), "refit 10"),
    (("refit", (31, 10, 22), ()), "refit 31 10 22"),
    (("refit", (), ((2, 1), (3,), (9, 8, 7))), "refit / 2 1 / 3 / 9 8 7"),
    (("refit", (10,), ((1,),)), "refit 10 / 1"),
    (("refit", (5, 5), ((1, 1), (1,))), "refit 5 5 / 1 1 / 1"),
    (("refit", (0,), ((0,),)), "refit 0 / 0"),
    (("refit", tuple(range(9)), ((61,),) * 9), "refit 0 1 2 3 4 5 6 7 8" + " / 61" * 9),
    (("refit", (), (tuple(range(13)),)), "refit / 0 1 2 3 4 5 6 7 8 9 10 11 12"),
)

NOT_SO_MADE = (
    "", " ", "\n", "/", "0", "10", "fell", "refit", "storm", "find", "lend", "pay", "clear",
    # blanks ahead, behind, twice
    " fell 1", "fell 1 ", "fell  1", "fell ", " fell", "storm 1  2", "storm  1", "storm 1 2 ", "storm ", "lend 10  5",
    "refit  10", "refit 10 ", "refit  / 1", "refit /  1", "refit / 1 ", "refit / 1  / 2", "refit / 1 /  2", "refit ",
    # strokes at the wrong place, twice, without a number behind
    "refit /", "refit 10 /", "refit / /", "refit / / 1", "refit / 1 /", "refit 10 / / 1", "refit / 1 / / 2", "/ refit 10",
    "refit /1", "refit 1/", "refit 10/ 1", "refit 10 /1", "refit 10/1", "refit // 1", "refit / 1 // 2", "fell / 1",
    "fell 1 /", "fell /", "storm / 1", "storm 1 / 2", "storm 1 /", "find / 1", "lend / 10 5", "lend 10 / 5", "clear / 1",
    "/ 1", "refit \\ 1",
    # things more or fewer
    "fell 1 2", "clear 1 2", "lend 10", "lend 10 5 1", "pay 10", "pay 10 5 1", "fell 1 fell 1", "refit 10 refit 11",
    # another word
    "Fell 1", "FELL 1", "fel 1", "felled 1", "sink 1", "tell 1", "strike 1", "fell1", "fell-1", "fell,1", "1 fell",
    "storms 1", "refits 10", "refit, 10", "yard 3", "none 1 2",
    # numbers not so written
    "fell 01", "fell 00", "fell -1", "fell +1", "fell 1.0", "fell a", "fell 1a", "fell ''", "fell 1_0", "fell 0x1",
    "storm 1 02", "storm 01 2", "storm 1,2", "storm 1, 2", "storm (1 2)", "lend 010 5", "lend 10 05", "lend 10 -5",
    "refit 010", "refit 10 / 01", "refit 10 / 1 00", "refit -10", "refit / -1", "refit a", "refit / a", "clear 1e3",
    # line feeds
    "fell\n1", "fell 1\n", "\nfell 1", "fell \n1", "fell 1\nfell 2", "storm 1\n2", "storm 1 2\n", "refit 10\n/ 1",
    "refit 10 /\n1", "refit 10 / 1\n", "refit\n10", "refit 10\n", "refit\n", "storm\n", "lend 10\n5",
)


class Number(unittest.TestCase):
    def assert_number(self, text, wished):
        told = number(text)
        self.assertIs(type(told), int)
        self.assertEqual(told, wished)

    def test_nought(self):
        self.assert_number("0", 0)

    def test_each_figure(self):
        for figure in range(10):
            self.assert_number(str(figure), figure)

    def test_all_small_numbers(self):
        for wished in range(1200):
            self.assert_number(str(wished), wished)

    def test_noughts_behind_and_within(self):
        self.assert_number("10", 10)
        self.assert_number("4007", 4007)
        self.assert_number("1000000", 10 ** 6)

    def test_thirty_figures_and_more(self):
        self.assert_number("9" * 30, BIG)
        self.assert_number("1" + "0" * 29, 10 ** 29)
        self.assert_number("1" + "0" * 30, 10 ** 30)
        self.assert_number("123456789" * 10, int("123456789" * 10))

    def test_noughts_ahead(self):
        for text in ("00", "01", "007", "0" * 30, "0" + "9" * 30, "000"):
            self.assertIsNone(number(text))

    def test_no_sign(self):
        self.assertIsNone(number(""))

    def test_other_signs(self):
        signs = [chr(code) for code in range(32, 127) if chr(code) != "%" and not chr(code).isdigit()] + ["\n"]
        self.assertEqual(len(signs), 85)
        for sign in signs:
            for text in (sign, sign + "1", "1" + sign, "1" + sign + "2", sign + "0", "0" + sign, sign * 2):
                self.assertIsNone(number(text), text)

    def test_blanks_minus_plus_letters(self):
        for text in ("-1", "-0", "+1", "+0", " 1", "1 ", "1 2", "1_000", "1e3", "0x1", "1.0", "one", "a", "\n1", "1\n"):
            self.assertIsNone(number(text), text)


def same_kinds(one, other):
    if type(one) is not type(other):
        return False
    if type(one) is tuple:
        return len(one) == len(other) and all(same_kinds(*pair) for pair in zip(one, other))
    return True


class Written(unittest.TestCase):
    def assert_text(self, told, wished):
        self.assertIs(type(told), str)
        self.assertEqual(told, wished)

    def assert_fact(self, told, wished):
        self.assertEqual(told, wished)
        self.assertTrue(same_kinds(told, wished), told)

    def test_shown(self):
        for fact, text in WRITTEN:
            self.assert_text(shown(fact), text)

    def test_read(self):
        for fact, text in WRITTEN:
            self.assert_fact(read_fact(text), fact)

    def test_what_is_written_is_read_to_the_very_same_fact(self):
        numbers = (0, 1, 10, 61, BIG)
        groups = [row for many in (1, 2) for row in itertools.product(numbers, repeat=many)]
        facts = [(word, one) for word in ("fell", "clear") for one in numbers]
        facts += [(word,) + pair for word in ("lend", "pay") for pair in itertools.product(numbers, repeat=2)]
        facts += [(word, group) for word in ("storm", "find") for group in groups]
        facts += [("refit", group, ()) for group in groups]
        facts += [("refit", (), (group,)) for group in groups]
        facts += [("refit", names, sets) for names in ((), (10,), (5, 0)) for sets in itertools.product(groups, repeat=2)]
        self.assertEqual(len({shown(fact) for fact in facts}), len(facts))
        for fact in facts:
            self.assert_fact(read_fact(shown(fact)), fact)

    def test_asked_again(self):
        for fact, text in WRITTEN + WRITTEN:
            self.assert_text(shown(read_fact(text)), text)


class NotSoMade(unittest.TestCase):
    def assert_refused(self, text):
        with self.assertRaises(ArgosyError, msg=text) as refused:
            read_fact(text)
        self.assertIs(type(refused.exception), BadText)

    def test_each(self):
        for text in NOT_SO_MADE:
            with self.subTest(text):
                self.assert_refused(text)

    def test_a_blank_or_a_line_feed_too_many_at_any_place(self):
        for _, text in WRITTEN:
            for place in range(len(text) + 1):
                self.assert_refused(text[:place] + "\n" + text[place:])
                around = text[max(place - 1, 0):place + 1]
                if place in (0, len(text)) or " " in around:
                    self.assert_refused(text[:place] + " " + text[place:])

    def test_another_sign_at_any_place(self):
        for _, text in WRITTEN:
            for place in range(len(text)):
                for sign in ("-", "+", ",", ".", "_", "A", "\\", "~"):
                    self.assert_refused(text[:place] + sign + text[place + 1:])

    def test_all_short_rows_of_words(self):
        """Each is read by a plain grammar, or refused."""
        pieces = ("fell", "refit", "storm", "lend", "/", "1", "0", "10", "01", "")
        for many in range(1, 5):
            for row in itertools.product(pieces, repeat=many):
                text = " ".join(row)
                if plainly_written(row):
                    self.assertEqual(shown(read_fact(text)), text)
                else:
                    self.assert_refused(text)


def plainly_written(row):
    word, rest = row[0], row[1:]
    if any(piece not in ("1", "0", "10", "/") for piece in rest):
        return False
    if word == "refit":
        marks = "".join("/" if piece == "/" else "1" for piece in rest)
        return marks != "" and "//" not in marks and not marks.endswith("/")
    if "/" in rest:
        return False
    return (word, len(rest)) in (("fell", 1), ("lend", 2)) or word == "storm" and len(rest) > 0


if __name__ == "__main__":
    unittest.main()

"""Points 1, 2 and 6 and the interface's section argosy/facts.py."""

import itertools
import unittest

from argosy.facts import sound

BIG = 10 ** 30 - 1
SLIPS = range(1, 13)
FAR = (0, -1, -10, BIG, -BIG)

# A sound fact of each word, for any slip.
SOUND = (
    ("fell", 1),
    ("refit", (10,), ((1,),)),
    ("storm", (1,)),
    ("find", (1,)),
    ("lend", 10, 1),
    ("pay", 10, 1),
    ("clear", 1),
)
WORDS = tuple(fact[0] for fact in SOUND)
# Things of each kind that may stand in a fact.
THINGS = (
    1, 10, 0, -1, BIG, "", "1", "10", "fell", (), (1,), (10,), (1, 2), (10, 11), ((),), ((1,),), ((10,),),
    ((1,), (2,)), (1, (2,)), ((2,), 1), ((1, 2), 10),
)


def timbers(many, first=1):
    return tuple(range(first, first + many))


def plainly_sound(slip, fact):
    """Point 6 over again, in another form."""
    kinds = {
        "fell": "n", "refit": "tt", "storm": "t", "find": "t", "lend": "nn", "pay": "nn", "clear": "n",
    }
    word, asked = fact[0], fact[1:]
    made = "".join({int: "n", tuple: "t", str: "s"}[type(thing)] for thing in asked)
    if kinds.get(word) != made:
        return False
    if word in ("fell", "clear"):
        return asked[0] in range(1, 61)
    if word in ("lend", "pay"):
        return asked[0] in range(10, 4008) and asked[1] in range(1, 10 ** 6 + 1)
    if word in ("storm", "find"):
        return 0 < len(asked[0]) == len(set(asked[0]).intersection(range(1, 61)))
    names, sets = asked
    if any(type(name) is not int for name in names) or any(type(one) is not tuple for one in sets):
        return False
    flat = [timber for one in sets for timber in one]
    return (
        len(names) == len(set(names).intersection(range(10, 4008))) <= 8
        and len(sets) <= 8
        and all(1 <= len(one) <= slip for one in sets)
        and len(flat) == len(set(flat).intersection(range(1, 61)))
        and len(names) + len(sets) > 0
    )


class Told(unittest.TestCase):
    def assert_sound(self, fact, slip=12):
        self.assertIs(sound(slip, fact), True, (slip, fact))

    def assert_unsound(self, fact, slip=12):
        self.assertIs(sound(slip, fact), False, (slip, fact))

    def assert_bounds(self, made, least, most):
        """The fact made of a number is sound from the least to the most, and no further."""
        for number in (least, least + 1, most - 1, most):
            self.assert_sound(made(number))
        for number in (least - 1, most + 1, most + 2, -least, -most) + FAR:
            self.assert_unsound(made(number))


class TheWords(Told):
    def test_each(self):
        for slip in SLIPS:
            for fact in SOUND:
                self.assert_sound(fact, slip)

    def test_another_word(self):
        words = ("", " ", "Fell", "FELL", "fell ", " fell", "fel", "felled", "lends", "sink", "good", "/", "0", "fell\n")
        for word in words:
            for fact in SOUND:
                self.assert_unsound((word,) + fact[1:])
            self.assert_unsound((word,))

    def test_a_word_of_another_fact(self):
        alike = (("storm", "find"), ("lend", "pay"), ("fell", "clear"))
        for fact in SOUND:
            for word in WORDS:
                pair_alike = any(word in pair and fact[0] in pair for pair in alike)
                self.assertIs(sound(12, (word,) + fact[1:]), word == fact[0] or pair_alike)


class HowManyThings(Told):
    def test_fewer(self):
        for fact in SOUND:
            for many in range(1, len(fact)):
                self.assert_unsound(fact[:many])

    def test_none_at_all(self):
        self.assert_unsound(())

    def test_more(self):
        for fact in SOUND:
            for thing in THINGS + (fact[-1],):
                self.assert_unsound(fact + (thing,))
                self.assert_unsound((fact[0], thing) + fact[1:])

    def test_twenty(self):
        for fact in SOUND:
            self.assert_unsound((fact + (fact[-1],) * 20)[:20])
        self.assert_unsound(("storm",) + timbers(19))
        self.assert_unsound(("lend",) + (10,) * 19)


class TheKinds(Told):
    def test_a_thing_of_another_kind_at_each_place(self):
        for fact in SOUND:
            for place in range(1, len(fact)):
                for thing in THINGS:
                    other = fact[:place] + (thing,) + fact[place + 1:]
                    self.assertIs(sound(12, other), plainly_sound(12, other), other)
                    if type(thing) is not type(fact[place]):
                        self.assert_unsound(other)

    def test_a_number_for_a_tuple(self):
        for fact in (
            ("storm", 1), ("find", 1), ("refit", 10, ((1,),)), ("refit", (10,), 1), ("refit", (10,), (1,)),
            ("refit", 10, 1), ("refit", (), (1,)), ("refit", (10,), ((1,), 2)), ("refit", (10,), (2, (1,))),
        ):
            self.assert_unsound(fact)

    def test_a_tuple_for_a_number(self):
        for fact in (
            ("fell", (1,)), ("clear", (1,)), ("lend", (10,), 1), ("lend", 10, (1,)), ("pay", (10,), 1), ("pay", 10, (1,)),
            ("storm", ((1,),)), ("find", ((1,),)), ("storm", (1, (2,))), ("find", ((2,), 1)), ("refit", ((10,),), ((1,),)),
            ("refit", (10, (11,)), ((1,),)), ("refit", ((10,), 11), ()), ("fell", ()), ("clear", ()), ("lend", (), ()),
            ("refit", ((),), ()), ("storm", ((),)), ("refit", ((10, 11), 12), ()),
        ):
            self.assert_unsound(fact)

    def test_a_text_for_a_number_or_a_tuple(self):
        for fact in (
            ("fell", "1"), ("clear", "1"), ("lend", "10", 1), ("lend", 10, "1"), ("pay", "10", 1), ("pay", 10, "1"),
            ("storm", "1"), ("find", "1"), ("refit", "10", ((1,),)), ("refit", (10,), "1"), ("refit", "", ((1,),)),
            ("refit", (10,), ""), ("storm", ""), ("refit", "", ""),
        ):
            self.assert_unsound(fact)

    def test_true_and_false_are_no_numbers(self):
        for fact in (
            ("fell", True), ("clear", True), ("lend", 10, True), ("pay", 10, True), ("storm", (True,)),
            ("find", (2, True)), ("refit", (), ((True,),)), ("refit", (), ((2, True), (3,))),
        ):
            self.assert_unsound(fact)

    def test_all_things_behind_each_word(self):
        for word in WORDS:
            for thing in THINGS:
                self.assertIs(sound(12, (word, thing)), plainly_sound(12, (word, thing)))
            for one, other in itertools.product(THINGS, repeat=2):
                for slip in (1, 2):
                    fact = (word, one, other)
                    self.assertIs(sound(slip, fact), plainly_sound(slip, fact), (slip, fact))


class TheNumbers(Told):
    def test_fell(self):
        self.assert_bounds(lambda many: ("fell", many), 1, 60)

    def test_clear(self):
        self.assert_bounds(lambda timber: ("clear", timber), 1, 60)

    def test_lend_and_pay(self):
        for word in ("lend", "pay"):
            self.assert_bounds(lambda name: (word, name, 5), 10, 4007)
            self.assert_bounds(lambda coins: (word, 10, coins), 1, 10 ** 6)
            self.assert_bounds(lambda coins: (word, 4007, coins), 1, 10 ** 6)

    def test_a_name_ends_on_any_figure(self):
        for name in range(10, 40):
            self.assert_sound(("lend", name, 1))
            self.assert_sound(("pay", name, 1))
            self.assert_sound(("refit", (name,), ()))


class StormAndFind(Told):
    def test_each_number_at_its_bounds(self):
        for word in ("storm", "find"):
            self.assert_bounds(lambda timber: (word, (timber,)), 1, 60)
            self.assert_bounds(lambda timber: (word, (30, timber)), 1, 60)
            self.assert_bounds(lambda timber: (word, (timber, 30, 31)), 1, 60)

    def test_how_many(self):
        for word in ("storm", "find"):
            self.assert_unsound((word, ()))
            for many in (1, 2, 12, 13, 59, 60):
                self.assert_sound((word, timbers(many)))
                self.assert_sound((word, timbers(many)[::-1]), 1)
            for many in (61, 62, 100):
                self.assert_unsound((word, timbers(many)))

    def test_two_alike(self):
        for word in ("storm", "find"):
            for alike in ((1, 1), (60, 60), (1, 2, 1), (5, 9, 9), (3, 3, 3)):
                self.assert_unsound((word, alike))
            self.assert_unsound((word, timbers(60) + (1,)))
            self.assert_unsound((word, timbers(59) + (59,)))
            self.assert_unsound((word, (1,) * 60))


class Refit(Told):
    def test_each_number_at_its_bounds(self):
        self.assert_bounds(lambda name: ("refit", (name,), ()), 10, 4007)
        self.assert_bounds(lambda name: ("refit", (50, name, 60), ((1,),)), 10, 4007)
        self.assert_bounds(lambda timber: ("refit", (), ((timber,),)), 1, 60)
        self.assert_bounds(lambda timber: ("refit", (10,), ((30,), (31, timber))), 1, 60)

    def test_names_none_eight_nine(self):
        for many in range(9):
            self.assert_sound(("refit", timbers(many, 10), ((1,),)))
        for many in (9, 10, 60):
            self.assert_unsound(("refit", timbers(many, 10), ((1,),)))
            self.assert_unsound(("refit", timbers(many, 10), ()))

    def test_two_names_alike(self):
        for names in ((10, 10), (10, 11, 10), (4007, 4007), (12, 31, 31)):
            self.assert_unsound(("refit", names, ()))
            self.assert_unsound(("refit", names, ((1,),)))

    def test_names_in_any_order(self):
        for names in itertools.permutations((10, 31, 4007)):
            self.assert_sound(("refit", names, ()))

    def test_sets_none_eight_nine(self):
        for many in range(9):
            sets = tuple((timber,) for timber in timbers(many))
            self.assert_sound(("refit", (10,), sets))
        for many in (9, 10, 60):
            sets = tuple((timber,) for timber in timbers(many))
            self.assert_unsound(("refit", (10,), sets))
            self.assert_unsound(("refit", (), sets))

    def test_not_both_are_none(self):
        for slip in SLIPS:
            self.assert_unsound(("refit", (), ()), slip)
            self.assert_sound(("refit", (10,), ()), slip)
            self.assert_sound(("refit", (), ((1,),)), slip)

    def test_a_set_has_one_timber_to_as_many_as_the_slip(self):
        for slip in SLIPS:
            for names in ((), (10,)):
                for many in range(15):
                    wished = 1 <= many <= slip
                    self.assertIs(sound(slip, ("refit", names, (timbers(many),))), wished)
                    self.assertIs(sound(slip, ("refit", names, ((60,), timbers(many)))), wished)
                    self.assertIs(sound(slip, ("refit", names, (timbers(many), (60,)))), wished)

    def test_a_slip_somewhat_beyond_its_bounds(self):
        self.assert_unsound(("refit", (), ((1,),)), 0)
        self.assert_sound(("refit", (10,), ()), 0)
        self.assert_sound(("refit", (), (timbers(13),)), 13)

    def test_eight_sets_of_twelve_are_more_than_there_are_timbers(self):
        five = tuple(timbers(12, 1 + 12 * place) for place in range(5))
        self.assert_sound(("refit", (), five))
        self.assert_unsound(("refit", (), five + ((61,),)))
        self.assert_unsound(("refit", (), five + ((1,),)))

    def test_timbers_in_any_order(self):
        for row in itertools.permutations((3, 17, 60)):
            self.assert_sound(("refit", (), (row, (4,))), 3)

    def test_timbers_alike_within_a_set(self):
        for alike in ((1, 1), (1, 2, 1), (60, 7, 7)):
            self.assert_unsound(("refit", (10,), (alike,)))
            self.assert_unsound(("refit", (), ((9,), alike)))

    def test_timbers_alike_over_two_sets(self):
        for sets in (((1,), (1,)), ((1, 2), (3, 1)), ((1,), (2,), (1,)), ((5, 6), (7,), (8, 9, 6)), ((1, 2), (1, 2))):
            self.assert_unsound(("refit", (10,), sets))
            self.assert_unsound(("refit", (), sets))

    def test_a_timber_may_be_called_like_a_name(self):
        self.assert_sound(("refit", (10, 11), ((10,), (11,))))

    def test_whether_such_boats_and_timbers_are_there_is_not_asked(self):
        self.assert_sound(("refit", (4007, 19, 28), ((60, 59), (58,))), 2)

    def test_many_refits(self):
        names = ((), (10,), (10, 10), (9,), (10, 4007), (4008, 10))
        groups = ((), (1,), (1, 2), (2, 1), (1, 1), (61,), (0, 3), (3, 4, 5))
        for named in names:
            for many in range(3):
                for sets in itertools.product(groups, repeat=many):
                    for slip in (1, 2, 3):
                        fact = ("refit", named, sets)
                        self.assertIs(sound(slip, fact), plainly_sound(slip, fact), (slip, fact))


class NothingIsKept(Told):
    def test_asked_again_for_another_slip(self):
        fact = ("refit", (), ((1, 2, 3),))
        for _ in range(2):
            self.assert_unsound(fact, 2)
            self.assert_sound(fact, 3)
        self.assertEqual(fact, ("refit", (), ((1, 2, 3),)))


if __name__ == "__main__":
    unittest.main()

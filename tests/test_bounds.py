"""Points 2, 6 and 8: which numbers are days, timbers, slips and names; which lists are boats for a slip."""

import unittest

from argosy.bounds import is_day, is_name, is_slip, is_timber, name_of, need_boat, need_day, need_slip
from argosy.errors import BadFleet, BadNumber
from tests.plain import BIG


class TheBounds(unittest.TestCase):
    def test_each_at_its_bounds_and_beyond(self):
        for asked, least, most in ((is_day, 1, 400), (is_timber, 1, 60), (is_slip, 1, 12), (is_name, 10, 4007)):
            with self.subTest(asked.__name__):
                for number in (least, least + 1, most - 1, most):
                    self.assertIs(asked(number), True)
                for number in (least - 1, most + 1, 0, -1, -least, -most, BIG, -BIG):
                    self.assertIs(asked(number), False)

    def test_what_is_refused_beyond_them(self):
        for needed, most in ((need_day, 400), (need_slip, 12)):
            with self.subTest(needed.__name__):
                for number in (1, 2, most - 1, most):
                    self.assertIsNone(needed(number))
                for number in (0, -1, -most, most + 1, BIG, -BIG):
                    with self.assertRaises(BadNumber):
                        needed(number)

    def test_boats_for_a_slip(self):
        for slip in range(1, 13):
            for many in range(15):
                timbers = list(range(many, 0, -1)) + [1] * bool(many)
                if 1 <= many <= slip:
                    self.assertIsNone(need_boat(timbers, slip))
                else:
                    with self.assertRaises(BadFleet):
                        need_boat(timbers, slip)

    def test_names(self):
        self.assertEqual(name_of(1, 0), 10)
        self.assertEqual(name_of(3, 7), 37)
        self.assertEqual(name_of(400, 7), 4007)


if __name__ == "__main__":
    unittest.main()

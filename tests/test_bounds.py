"""Points 2, 6 and 8: which numbers are days, timbers, slips and names."""

import unittest

from argosy.bounds import is_day, is_name, is_slip, is_timber, name_of

BIG = 10 ** 30 - 1


class TheBounds(unittest.TestCase):
    def test_each_at_its_bounds_and_beyond(self):
        for asked, least, most in ((is_day, 1, 400), (is_timber, 1, 60), (is_slip, 1, 12), (is_name, 10, 4007)):
            with self.subTest(asked.__name__):
                for number in (least, least + 1, most - 1, most):
                    self.assertIs(asked(number), True)
                for number in (least - 1, most + 1, 0, -1, -least, -most, BIG, -BIG):
                    self.assertIs(asked(number), False)

    def test_names(self):
        self.assertEqual(name_of(1, 0), 10)
        self.assertEqual(name_of(3, 7), 37)
        self.assertEqual(name_of(400, 7), 4007)


if __name__ == "__main__":
    unittest.main()

"""Point 2 and the interface's section argosy/errors.py."""

import unittest

from argosy import errors

NAMES = (
    "BadNumber", "BadFact", "BadFleet", "BadText", "Late", "Taken",
    "NoFact", "NoDeed", "NoBoat", "NoName", "NoTimber", "NoChoice",
)


class TheRefusals(unittest.TestCase):
    def refusals(self):
        return [(name, getattr(errors, name)) for name in NAMES]

    def test_there_are_twelve(self):
        kinds = [kind for _, kind in self.refusals()]
        self.assertEqual(len(set(kinds)), 12)
        for name, kind in self.refusals():
            self.assertEqual(kind.__name__, name)

    def test_argosy_error_is_straight_under_value_error(self):
        self.assertEqual(errors.ArgosyError.__bases__, (ValueError,))

    def test_each_is_straight_under_argosy_error(self):
        for name, kind in self.refusals():
            with self.subTest(name):
                self.assertEqual(kind.__bases__, (errors.ArgosyError,))

    def test_none_is_under_another(self):
        for name, kind in self.refusals():
            for other_name, other in self.refusals():
                if name != other_name:
                    with self.subTest(name, other=other_name):
                        self.assertFalse(issubclass(kind, other))

    def test_each_is_taken_as_itself_as_argosy_error_and_as_value_error(self):
        for name, kind in self.refusals():
            for taken in (kind, errors.ArgosyError, ValueError):
                with self.subTest(name, taken=taken.__name__):
                    with self.assertRaises(taken):
                        raise kind("why")

    def test_none_is_taken_as_another(self):
        for name, kind in self.refusals():
            others = tuple(other for other_name, other in self.refusals() if other_name != name)
            with self.subTest(name):
                try:
                    raise kind("why")
                except others:
                    self.fail("taken as another refusal")
                except errors.ArgosyError as refusal:
                    self.assertIs(type(refusal), kind)

    def test_words_are_free(self):
        for name, kind in self.refusals():
            with self.subTest(name):
                self.assertEqual(str(kind("no such day")), "no such day")
                self.assertEqual(str(kind()), "")


if __name__ == "__main__":
    unittest.main()

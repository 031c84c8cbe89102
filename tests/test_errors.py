"""The interface's part errors: the refusals and their fields."""

import unittest

from lanepacks import errors

REFUSALS = [
    "NoBlock", "NoCells", "NoRow", "NoLanes", "NoPlan", "NoProgram", "NoTree", "NoLoop",
    "NoText", "NoName", "TooMany", "TooLong", "NotValid", "Nothing",
]
FIELDS = {"NoRow": "row", "NoName": "name", "NotValid": "packs"}


class Refusals(unittest.TestCase):
    def test_pack_error_is_a_value_error(self):
        self.assertEqual(errors.PackError.__bases__, (ValueError,))

    def test_each_stands_straight_under_pack_error(self):
        for name in REFUSALS:
            with self.subTest(name):
                self.assertEqual(getattr(errors, name).__bases__, (errors.PackError,))

    def test_there_are_no_others(self):
        found = [name for name, thing in vars(errors).items() if isinstance(thing, type)]
        self.assertEqual(sorted(found), sorted(REFUSALS + ["PackError"]))

    def test_each_can_be_raised_and_taken(self):
        for name in REFUSALS:
            with self.subTest(name), self.assertRaises(errors.PackError):
                raise getattr(errors, name)("x")

    def test_fields_hold_the_very_thing(self):
        for name, field in FIELDS.items():
            for thing in (7, -1, True, None, "ab", (), ((0, 1), (2, 3)), [1], {"a": 2}, object()):
                with self.subTest(name, thing=thing):
                    self.assertIs(getattr(getattr(errors, name)(thing), field), thing)

    def test_fields_are_each_errors_own(self):
        first, second = errors.NoRow(1), errors.NoRow(2)
        self.assertEqual((first.row, second.row), (1, 2))

    def test_a_text_can_be_told_whatever_was_handed_in(self):
        class Mute:
            def __repr__(self):
                raise RuntimeError

        for name in FIELDS:
            with self.subTest(name):
                self.assertIsInstance(str(getattr(errors, name)(Mute())), str)


if __name__ == "__main__":
    unittest.main()

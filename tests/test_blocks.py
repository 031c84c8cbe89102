"""Promise [3] and the interface's part blocks, with [1] as far as it speaks of them."""

import copy
import unittest
from collections import namedtuple

from lanepacks.blocks import is_block, makes, named
from lanepacks.errors import NoBlock, NoRow
from lanepacks.words import DEEDS
from things import ODD

# Rows 0 to 5; row 4 makes no word, row 5 none either.
AHEAD = (("number", 5), ("load", 0), ("plus", 0, 1), ("number", 999), ("store", 1, 2), ("put", 2, 0, 1))
SOUND = (2, AHEAD)

# Of each kind a row that may stand behind AHEAD, whether it makes a word, what it names.
KINDS = [(("number", 7), True, []), (("load", 3), True, [])]
KINDS += [((deed, 3, 1), True, [3, 1]) for deed in DEEDS]
KINDS += [
    (("pick", 2, 3, 1), True, [2, 3, 1]),
    (("take", 9, 3, 1), True, [3, 1]),
    (("store", 9, 2), False, [2]),
    (("put", 9, 3, 1), False, [3, 1]),
]

# Where a text may stand, the things above but texts that are deeds, and near misses.
NO_DEEDS = ODD + [
    b"plus", "Plus", "PLUS", "plus ", " plus", "pluss", "pick3", "numbers", "divide", "and", "if", "last", "wide",
    "gather", "shuffle", "lane", ("plus",), ["plus"], 0, 1, -1,
]


def behind(row):
    return (2, AHEAD + (row,))


def changed(row, at, thing):
    return row[:at] + (thing,) + row[at + 1:]


def numbers(many):
    return tuple([("number", 0)] * many)


class IsBlock(unittest.TestCase):
    def yes(self, thing):
        self.assertIs(is_block(thing), True, thing)

    def no(self, thing):
        self.assertIs(is_block(thing), False)

    def test_ordinary(self):
        self.yes((0, ()))
        self.yes(SOUND)
        self.yes((2, (("load", 0), ("number", 5), ("plus", 0, 1), ("store", 1, 2))))

    def test_each_kind_of_row(self):
        for row, *rest in KINDS:
            with self.subTest(row=row):
                self.yes(behind(row))

    def test_rows_that_need_none_ahead(self):
        self.yes((0, (("number", 0),)))
        self.yes((0, (("load", 0),)))

    def test_equal_things_of_narrower_kinds(self):
        pair = namedtuple("pair", "sure rows")
        self.yes(pair(2, AHEAD))

    def test_bounds_of_sure(self):
        for sure in (0, 1, 63, 64):
            self.yes((sure, AHEAD))
        for sure in (-1, -64, 65, 1000):
            self.no((sure, AHEAD))

    def test_bounds_of_a_word(self):
        for word in (0, 1, 998, 999):
            self.yes(behind(("number", word)))
        for word in (-1, -999, 1000, 1001):
            self.no(behind(("number", word)))

    def test_bounds_of_a_place(self):
        for row, *rest in KINDS:
            if row[0] not in ("load", "take", "store", "put"):
                continue
            with self.subTest(row=row):
                for place in (0, 1, 62, 63):
                    self.yes(behind(changed(row, 1, place)))
                for place in (-1, -63, 64, 65):
                    self.no(behind(changed(row, 1, place)))

    def test_a_place_need_not_be_sure(self):
        self.yes((0, (("load", 63), ("store", 63, 0))))

    def test_bounds_of_the_number_of_rows(self):
        for many in (0, 1, 39, 40):
            self.yes((0, numbers(many)))
        for many in (41, 42, 100):
            self.no((0, numbers(many)))

    def test_the_last_row_may_name_all_ahead(self):
        for at in range(39):
            self.yes((0, numbers(39) + (("plus", at, 38 - at),)))
        self.no((0, numbers(39) + (("plus", 39, 0),)))

    def test_a_row_that_is_named(self):
        for row, makes_one, names in KINDS:
            first = len(row) - len(names)
            for at in range(first, len(row)):
                with self.subTest(row=row, at=at):
                    for good in (0, 1, 2, 3):
                        self.yes(behind(changed(row, at, good)))
                    # 4 and 5 make no word, 6 is the row itself, 7 lies behind it, 8 is not there.
                    for bad in (4, 5, 6, 7, 8, 39, 40, -1, -3, -6, -7):
                        self.no((2, AHEAD + (changed(row, at, bad), ("number", 0))))

    def test_a_number_below_nought_is_none_counted_from_the_end(self):
        for row, makes_one, names in KINDS:
            for at in range(len(row) - len(names), len(row)):
                for bad in (-1, -2, -6, -7):
                    with self.subTest(row=row, at=at, bad=bad):
                        self.yes((2, numbers(6) + (changed(row, at, 0),)))
                        self.no((2, numbers(6) + (changed(row, at, bad),)))

    def test_a_first_row_names_none(self):
        for row, makes_one, names in KINDS:
            nought = row[:len(row) - len(names)] + (0,) * len(names)
            with self.subTest(row=row):
                self.assertIs(is_block((64, (nought,))), not names)
                self.assertIs(is_block((64, (nought, ("number", 1)))), not names)
                self.yes((64, (("number", 1), nought)))

    def test_the_same_row_may_be_named_twice(self):
        self.yes(behind(("plus", 0, 0)))
        self.yes(behind(("pick", 1, 1, 1)))

    def test_rows_too_long_or_too_short(self):
        for row, *rest in KINDS:
            with self.subTest(row=row):
                self.no(behind(row + (0,)))
                self.no(behind(row + (0, 0)))
                self.no(behind(row + (None,)))
                for many in range(len(row)):
                    self.no(behind(row[:many]))

    def test_blocks_too_long_or_too_short(self):
        self.no(())
        self.no((2,))
        self.no((AHEAD,))
        self.no((2, AHEAD, ()))
        self.no((2, AHEAD, 0))
        self.no((AHEAD, 2))

    def test_lists_in_the_stead_of_tuples(self):
        self.no([2, AHEAD])
        self.no((2, list(AHEAD)))
        self.no((2, []))
        for row, *rest in KINDS:
            with self.subTest(row=row):
                self.no(behind(list(row)))

    def test_unknown_deeds(self):
        for deed in NO_DEEDS:
            for parts in ((), (0,), (0, 0), (0, 0, 0)):
                self.no(behind((deed,) + parts))

    def test_truths_in_the_stead_of_numbers(self):
        for truth in (True, False):
            self.no((truth, ()))
            self.no((truth, AHEAD))
            for row, *rest in KINDS:
                for at in range(1, len(row)):
                    with self.subTest(row=row, at=at, truth=truth):
                        self.no(behind(changed(row, at, truth)))

    def test_other_kinds_at_every_place(self):
        for thing in ODD:
            self.no(thing)
            self.no((thing, AHEAD))
            self.no((thing, thing))
            self.no(behind(thing))
            for row, *rest in KINDS:
                for at in range(len(row)):
                    self.no(behind(changed(row, at, thing)))

    def test_other_kinds_of_rows(self):
        for thing in ODD:
            # The empty tuple is what a block without rows has.
            if not (isinstance(thing, tuple) and thing == ()):
                self.no((2, thing))

    def test_a_bad_row_anywhere(self):
        for at in range(len(AHEAD)):
            for bad in (None, (), ("number",), ("number", 1000), ("plus", at, at), list(AHEAD[at])):
                self.no((2, changed(AHEAD, at, bad)))

    def test_naming_a_row_that_is_none(self):
        for bad in (None, (), 5, [], ("number", -1)):
            self.no((2, (bad, ("plus", 0, 0))))

    def test_what_is_handed_in_stays(self):
        thing = [2, [["number", 5], ["plus", 0, 0]], {"a": [1]}]
        kept = copy.deepcopy(thing)
        self.no(thing)
        self.no((2, thing))
        self.no(behind(("number", thing)))
        self.assertEqual(thing, kept)


class MakesAndNamed(unittest.TestCase):
    def test_makes(self):
        for row, makes_one, names in KINDS:
            with self.subTest(row=row):
                self.assertIs(makes(behind(row), 6), makes_one)
        self.assertEqual([makes(SOUND, at) for at in range(6)], [True, True, True, True, False, False])

    def test_named(self):
        for row, makes_one, names in KINDS:
            with self.subTest(row=row):
                told = named(behind(row), 6)
                self.assertIs(type(told), list)
                self.assertEqual(told, names)
        self.assertEqual([named(SOUND, at) for at in range(6)], [[], [], [0, 1], [], [2], [0, 1]])

    def test_named_in_the_order_of_the_row(self):
        self.assertEqual(named(behind(("minus", 0, 3)), 6), [0, 3])
        self.assertEqual(named(behind(("minus", 3, 0)), 6), [3, 0])
        self.assertEqual(named(behind(("take", 1, 0, 3)), 6), [0, 3])
        self.assertEqual(named(behind(("put", 1, 3, 0)), 6), [3, 0])

    def test_named_as_often_as_it_does(self):
        self.assertEqual(named(behind(("plus", 1, 1)), 6), [1, 1])
        self.assertEqual(named(behind(("pick", 1, 0, 1)), 6), [1, 0, 1])

    def test_named_is_a_new_list_each_time(self):
        first = named(SOUND, 2)
        first.append(9)
        second = named(SOUND, 2)
        self.assertIsNot(first, second)
        self.assertEqual(second, [0, 1])
        none = named(SOUND, 0)
        none.append(9)
        self.assertEqual(named(SOUND, 0), [])

    def test_equal_blocks_give_equal_answers(self):
        other = (2, tuple([tuple(list(row)) for row in AHEAD]))
        for at in range(6):
            self.assertEqual(named(SOUND, at), named(other, at))
            self.assertEqual(makes(SOUND, at), makes(other, at))

    def test_the_last_of_forty_rows(self):
        block = (0, numbers(39) + (("plus", 38, 0),))
        self.assertIs(makes(block, 39), True)
        self.assertEqual(named(block, 39), [38, 0])


class Refused(unittest.TestCase):
    def test_no_block(self):
        wrong = ODD + [[2, AHEAD], (2, list(AHEAD)), (65, AHEAD), (True, AHEAD), behind(("plus", 0, 4)),
                       (0, numbers(41))]
        for call in (makes, named):
            for thing in wrong:
                with self.assertRaises(NoBlock):
                    call(thing, 0)

    def test_no_row(self):
        for call in (makes, named):
            for row in ODD + [6, 7, 40, -1, -6, (2,), [2], "2"]:
                with self.assertRaises(NoRow) as caught:
                    call(SOUND, row)
                self.assertIs(caught.exception.row, row)

    def test_no_row_of_a_block_without_rows(self):
        for call in (makes, named):
            for row in (0, -1, 1):
                with self.assertRaises(NoRow) as caught:
                    call((3, ()), row)
                self.assertEqual(caught.exception.row, row)

    def test_no_block_comes_ahead_of_no_row(self):
        for call in (makes, named):
            for row in ODD + [-1, 6]:
                with self.assertRaises(NoBlock):
                    call((65, AHEAD), row)

    def test_what_is_refused_stays(self):
        row = [1, [2]]
        block = [2, [("number", 5)]]
        for call in (makes, named):
            with self.assertRaises(NoRow):
                call(SOUND, row)
            with self.assertRaises(NoBlock):
                call(block, row)
        self.assertEqual(row, [1, [2]])
        self.assertEqual(block, [2, [("number", 5)]])


if __name__ == "__main__":
    unittest.main()

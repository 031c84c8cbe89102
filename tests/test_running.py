"""Promise [4] and the interface's part running, with [1] as far as it speaks of them."""

import copy
import unittest

from lanepacks.errors import NoBlock, NoCells
from lanepacks.running import run, values
from lanepacks.words import DEEDS
from things import ODD

# The rows 0 to 3 make 5, 0, 999 and 7, whatever the cells.
NUMBERS = (("number", 5), ("number", 0), ("number", 999), ("number", 7))

# A row behind NUMBERS, and what it makes on the cells 10, 20, 30.
MAKERS = [
    (("number", 123), 123), (("plus", 0, 3), 12), (("plus", 2, 0), 4), (("minus", 0, 3), 998), (("minus", 3, 0), 2),
    (("times", 2, 2), 1), (("times", 0, 3), 35), (("least", 0, 3), 5), (("least", 3, 0), 5), (("most", 0, 3), 7),
    (("most", 3, 0), 7), (("less", 0, 3), 1), (("less", 3, 0), 0), (("less", 0, 0), 0), (("over", 2, 3), 142),
    (("over", 0, 3), 0), (("over", 1, 2), 0), (("pick", 0, 2, 3), 999), (("pick", 1, 2, 3), 7),
    (("load", 0), 10), (("load", 1), 20), (("load", 2), 30),
    (("take", 1, 0, 3), 20), (("take", 1, 1, 3), 7), (("take", 0, 2, 1), 10), (("take", 2, 1, 1), 0),
]

# A row behind NUMBERS that makes none, and the cells behind it.
WRITERS = [
    (("store", 0, 3), [7, 20, 30]), (("store", 2, 2), [10, 20, 999]), (("store", 1, 1), [10, 0, 30]),
    (("put", 1, 3, 0), [10, 7, 30]), (("put", 1, 3, 1), [10, 20, 30]), (("put", 0, 1, 2), [0, 20, 30]),
    (("put", 2, 2, 2), [10, 20, 999]), (("put", 2, 0, 1), [10, 20, 30]),
]

SUM = (2, (("load", 0), ("load", 1), ("plus", 0, 1), ("store", 1, 2)))


def behind(*rows, sure=0):
    return (sure, NUMBERS + rows)


class Running(unittest.TestCase):
    def told(self, block, cells, then, fault, words):
        self.assertEqual(run(block, cells), (then, fault))
        self.assertEqual(values(block, cells), words)

    def test_a_block_without_rows(self):
        self.told((0, ()), [], [], None, [])
        self.told((2, ()), [4, 5], [4, 5], None, [])

    def test_each_kind_that_makes_a_word(self):
        self.assertEqual({row[0] for row, word in MAKERS}, set(DEEDS) | {"number", "pick", "load", "take"})
        for row, word in MAKERS:
            with self.subTest(row=row):
                self.told(behind(row), [10, 20, 30], [10, 20, 30], None, [5, 0, 999, 7, word])

    def test_each_kind_that_makes_none(self):
        for row, then in WRITERS:
            with self.subTest(row=row):
                self.told(behind(row), [10, 20, 30], then, None, [5, 0, 999, 7, None])

    def test_rows_are_done_in_order(self):
        self.told(SUM, [3, 4, 9], [3, 7, 9], None, [3, 4, 7, None])
        twice = (0, (("load", 0), ("plus", 0, 0), ("store", 0, 1), ("load", 0), ("store", 1, 3), ("load", 1)))
        self.told(twice, [600, 5], [200, 200], None, [600, 200, None, 200, None, 200])
        last = (0, (("number", 1), ("number", 2), ("store", 0, 0), ("store", 0, 1)))
        self.told(last, [9], [2], None, [1, 2, None, None])

    def test_a_word_stays_what_it_was_when_it_was_made(self):
        block = (0, (("load", 0), ("number", 8), ("store", 0, 1), ("store", 1, 0)))
        self.told(block, [3, 4], [8, 3], None, [3, 8, None, None])

    def test_no_fault_is_none(self):
        self.assertIsNone(run(SUM, [1, 2])[1])

    def test_forty_rows_and_sixty_four_cells(self):
        rows = (("load", 63),) + tuple([("plus", at, 0) for at in range(38)]) + (("store", 63, 38),)
        cells = [7] * 64
        self.told((64, rows), cells, [7] * 63 + [273], None, [7 * (at + 1) for at in range(39)] + [None])


class Faults(unittest.TestCase):
    """Rows behind NUMBERS, on cells that there are three of, or none."""

    def faults(self, row, cells, why):
        block = behind(("number", 1), row, ("number", 2), ("store", 0, 4))
        self.assertEqual(run(block, cells), (cells, (5, why)))
        self.assertEqual(values(block, cells), [5, 0, 999, 7, 1])

    def passes(self, row, cells, word):
        self.assertEqual(run(behind(row), cells), (cells, None))
        self.assertEqual(values(behind(row), cells), [5, 0, 999, 7, word])

    def test_beyond_the_cells(self):
        for cells in ([10, 20, 30], [10], []):
            for place in (len(cells), len(cells) + 1, 63):
                for row in (("load", place), ("take", place, 0, 3), ("store", place, 3), ("put", place, 3, 0)):
                    with self.subTest(row=row, cells=cells):
                        self.faults(row, cells, "beyond")

    def test_the_last_cell_is_not_beyond(self):
        for row, then in ((("load", 2), 30), (("take", 2, 0, 3), 30)):
            self.passes(row, [10, 20, 30], then)
        for row in (("store", 2, 3), ("put", 2, 3, 0)):
            self.assertEqual(run(behind(row), [10, 20, 30]), ([10, 20, 7], None))

    def test_take_and_put_touch_none_where_c_is_nought(self):
        for cells in ([10, 20, 30], [10], []):
            for place in (0, 2, 3, 63):
                self.passes(("take", place, 1, 3), cells, 7)
                self.passes(("put", place, 3, 1), cells, None)

    def test_take_and_put_touch_where_c_is_anything_else(self):
        for word in (1, 2, 500, 999):
            rows = (("number", word), ("number", 0))
            self.assertEqual(run((0, rows + (("take", 3, 0, 1),)), [1]), ([1], (2, "beyond")))
            self.assertEqual(run((0, rows + (("put", 3, 1, 0),)), [1]), ([1], (2, "beyond")))

    def test_it_is_the_number_of_cells_that_counts_not_sure(self):
        block = (1, (("load", 2), ("store", 3, 0)))
        self.assertEqual(run(block, [1, 2, 3, 4]), ([1, 2, 3, 3], None))
        self.assertEqual(run(block, [1, 2, 3]), ([1, 2, 3], (1, "beyond")))
        self.assertEqual(run(block, [1, 2]), ([1, 2], (0, "beyond")))

    def test_over_by_nought(self):
        for a in range(4):
            self.faults(("over", a, 1), [10, 20, 30], "nought")
        self.assertEqual(run((0, (("load", 0), ("over", 0, 0))), [0]), ([0], (1, "nought")))
        self.assertEqual(run((0, (("load", 0), ("over", 0, 0))), [3]), ([3], None))

    def test_what_is_ahead_of_a_fault_is_done(self):
        block = behind(("store", 0, 3), ("store", 2, 0), ("over", 0, 1), ("store", 1, 3))
        self.assertEqual(run(block, [10, 20, 30]), ([7, 20, 5], (6, "nought")))
        self.assertEqual(values(block, [10, 20, 30]), [5, 0, 999, 7, None, None])
        self.assertEqual(run(block, [10, 20]), ([7, 20], (5, "beyond")))
        self.assertEqual(values(block, [10, 20]), [5, 0, 999, 7, None])
        self.assertEqual(run(block, []), ([], (4, "beyond")))

    def test_the_first_of_several_faults(self):
        block = behind(("load", 9), ("over", 0, 1))
        self.assertEqual(run(block, [1]), ([1], (4, "beyond")))
        block = behind(("over", 0, 1), ("load", 9))
        self.assertEqual(run(block, [1]), ([1], (4, "nought")))

    def test_the_first_row_faults(self):
        self.assertEqual(run((0, (("load", 0),)), []), ([], (0, "beyond")))
        self.assertEqual(values((0, (("load", 0),)), []), [])


class Cells(unittest.TestCase):
    def refused(self, block, cells):
        for call in (run, values):
            with self.assertRaises(NoCells):
                call(block, cells)

    def taken(self, block, cells):
        self.assertEqual(run(block, cells)[0], cells)
        self.assertEqual(values(block, cells), [])

    def test_too_few(self):
        for sure in (1, 2, 63, 64):
            self.refused((sure, ()), [0] * (sure - 1))
            self.refused((sure, ()), [])
            self.taken((sure, ()), [0] * sure)

    def test_too_many(self):
        for sure in (0, 1, 64):
            self.taken((sure, ()), [0] * 64)
            self.refused((sure, ()), [0] * 65)
            self.refused((sure, ()), [0] * 100)

    def test_words(self):
        for word in (0, 1, 998, 999):
            self.taken((1, ()), [word, 0])
            self.taken((1, ()), [0, word])
        for word in (-1, -999, 1000, 1001):
            self.refused((1, ()), [word, 0])
            self.refused((1, ()), [0, word])
            self.refused((0, ()), [word])

    def test_other_kinds(self):
        for thing in ODD + [(1, 2), ([1, 2],), "12", {0: 1, 1: 2}, range(3)]:
            # Of lists there are two that are cells.
            if not isinstance(thing, list):
                self.refused((0, ()), thing)
            self.refused((2, ()), thing)
            self.refused((0, ()), [thing])
            self.refused((0, ()), [1, thing, 2])
        self.refused((0, ()), [True])
        self.refused((0, ()), [1, False])


class Refused(unittest.TestCase):
    def test_no_block(self):
        wrong = ODD + [[2, SUM[1]], (2, list(SUM[1])), (65, ()), (True, ()), (0, (("plus", 0, 0),)),
                       (0, NUMBERS * 11)]
        for call in (run, values):
            for thing in wrong:
                with self.assertRaises(NoBlock):
                    call(thing, [1, 2, 3])

    def test_no_block_comes_ahead_of_no_cells(self):
        for call in (run, values):
            for cells in ODD + [[1000], [0] * 65]:
                with self.assertRaises(NoBlock):
                    call((65, ()), cells)

    def test_what_is_refused_stays(self):
        block, cells = [2, [["load", 0]]], [1, [2]]
        for call in (run, values):
            with self.assertRaises(NoBlock):
                call(block, cells)
            with self.assertRaises(NoCells):
                call(SUM, cells)
        self.assertEqual((block, cells), ([2, [["load", 0]]], [1, [2]]))


class NothingIsKept(unittest.TestCase):
    def test_the_cells_handed_in_stay(self):
        blocks = [SUM, behind(("store", 0, 3), ("over", 0, 1)), behind(("put", 1, 3, 0)), (0, ())]
        for block in blocks:
            cells = [3, 4, 5]
            kept = copy.deepcopy(block)
            run(block, cells)
            values(block, cells)
            self.assertEqual(cells, [3, 4, 5])
            self.assertEqual(block, kept)

    def test_the_lists_told_are_new_ones(self):
        for block in (SUM, (0, ()), behind(("load", 9))):
            cells = [3, 4, 5]
            first, second = run(block, cells)[0], run(block, cells)[0]
            self.assertIsNot(first, cells)
            self.assertIsNot(first, second)
            self.assertIs(type(first), list)
            self.assertEqual(first, second)
            first.append(1)
            self.assertEqual(run(block, cells)[0], second)
            words = values(block, cells)
            words.append(1)
            self.assertEqual(values(block, cells), words[:-1])
            self.assertEqual(cells, [3, 4, 5])

    def test_the_kinds_that_are_told(self):
        told = run(behind(("over", 0, 1)), [1])
        self.assertIs(type(told), tuple)
        self.assertIs(type(told[1]), tuple)
        self.assertIs(type(values(SUM, [1, 2])), list)

    def test_equal_things_give_equal_answers(self):
        other = (2, tuple([tuple(list(row)) for row in SUM[1]]))
        for cells in ([0, 0], [999, 1], [5, 6, 7]):
            self.assertEqual(run(SUM, cells), run(other, list(cells)))
            self.assertEqual(values(SUM, cells), values(other, list(cells)))


if __name__ == "__main__":
    unittest.main()

"""Promises [5] and [6] and the interface's part orders, with [1] as far as it speaks of them."""

import itertools
import unittest

from lanepacks.errors import NoBlock, NoRow
from lanepacks.orders import ahead, may_fault, must
from lanepacks.words import DEEDS
from things import ODD

# Two number rows, that name none, touch none and don't fault.
TWO = (("number", 5), ("number", 0))

# Each kind of row on a cell, behind TWO.
ON_CELLS = {
    "load": lambda place: ("load", place),
    "take": lambda place: ("take", place, 0, 1),
    "store": lambda place: ("store", place, 0),
    "put": lambda place: ("put", place, 0, 1),
}

# Rows 0 to 9: 4 and 8 may fault, 6 and 9 write.
MIXED = (4, (
    ("number", 3), ("load", 0), ("load", 1), ("plus", 1, 2), ("over", 3, 1),
    ("over", 3, 0), ("store", 0, 5), ("load", 0), ("load", 4), ("put", 1, 7, 3),
))
MIXED_PAIRS = [
    (0, 5), (1, 3), (1, 4), (1, 6), (2, 3), (2, 9), (3, 4), (3, 5), (3, 9), (4, 6), (4, 8), (4, 9),
    (5, 6), (6, 7), (6, 8), (7, 9), (8, 9),
]
MIXED_AHEAD = [
    [], [], [], [1, 2], [1, 2, 3], [0, 1, 2, 3], [0, 1, 2, 3, 4, 5], [0, 1, 2, 3, 4, 5, 6], [0, 1, 2, 3, 4, 5, 6],
    [0, 1, 2, 3, 4, 5, 6, 7, 8],
]


def pair(first, second, sure=64):
    """Whether of two rows behind TWO the first must stay ahead of the second."""
    return (2, 3) in must((sure, TWO + (first, second)))


class MayFault(unittest.TestCase):
    def check(self, block, row, answer):
        self.assertIs(may_fault(block, row), answer, (block, row))

    def test_on_cells_it_is_sure_that_counts(self):
        for made in ON_CELLS.values():
            for sure in (1, 2, 5, 63):
                self.check((sure, TWO + (made(sure - 1),)), 2, False)
                self.check((sure, TWO + (made(sure),)), 2, True)
            self.check((0, TWO + (made(0),)), 2, True)
            self.check((64, TWO + (made(63),)), 2, False)
            self.check((3, TWO + (made(63),)), 2, True)

    def test_whatever_c_is(self):
        for c in (0, 1):
            self.check((1, TWO + (("take", 1, c, 0),)), 2, True)
            self.check((1, TWO + (("put", 1, 0, c),)), 2, True)
            self.check((1, TWO + (("take", 0, c, 0),)), 2, False)
            self.check((1, TWO + (("put", 0, 0, c),)), 2, False)

    def test_over(self):
        self.check((64, TWO + (("over", 0, 0),)), 2, False)
        self.check((64, TWO + (("over", 1, 0),)), 2, False)
        self.check((64, TWO + (("over", 0, 1),)), 2, True)
        self.check((64, TWO + (("over", 1, 1),)), 2, True)
        for word in (1, 2, 999):
            self.check((0, (("number", word), ("over", 0, 0))), 1, False)

    def test_over_by_another_row(self):
        for row in [("plus", 0, 0), ("most", 0, 0), ("over", 0, 0), ("pick", 0, 0, 0), ("load", 0), ("take", 0, 0, 0)]:
            block = (64, TWO + (row, ("over", 0, 2), ("over", 2, 0)))
            self.check(block, 3, True)
            self.check(block, 4, False)

    def test_all_others_do_not(self):
        rows = [(deed, 0, 1) for deed in DEEDS if deed != "over"]
        for row in rows + [("number", 0), ("number", 64), ("pick", 1, 1, 1), ("pick", 0, 1, 1)]:
            for sure in (0, 64):
                self.check((sure, TWO + (row,)), 2, False)

    def test_each_row_of_a_block(self):
        self.assertEqual([row for row in range(10) if may_fault(MIXED, row)], [4, 8])


class Must(unittest.TestCase):
    def test_none(self):
        self.assertEqual(must((0, ())), [])
        self.assertEqual(must((0, (("load", 0),))), [])
        self.assertEqual(must((64, TWO)), [])
        self.assertEqual(must((64, (("load", 0), ("load", 0), ("load", 1)))), [])

    def test_the_second_names_the_first(self):
        rows = [(deed, 0, 1) for deed in DEEDS if deed != "over"]
        rows += [("take", 5, 0, 1), ("put", 5, 0, 1)]
        for row in rows:
            self.assertEqual(must((64, TWO + (row,))), [(0, 2), (1, 2)], row)
        self.assertEqual(must((64, TWO + (("plus", 1, 1),))), [(1, 2)])
        self.assertEqual(must((64, TWO + (("store", 3, 1),))), [(1, 2)])
        self.assertEqual(must((64, TWO + (("number", 4), ("pick", 2, 0, 1)))), [(0, 3), (1, 3), (2, 3)])
        # No more than what is named: not by way of others.
        self.assertEqual(must((64, (("load", 0), ("plus", 0, 0), ("plus", 1, 1)))), [(0, 1), (1, 2)])

    def test_the_same_cell_and_one_writes(self):
        writers = ("store", "put")
        for one, other in itertools.product(ON_CELLS, ON_CELLS):
            with self.subTest(one=one, other=other):
                stays = one in writers or other in writers
                self.assertIs(pair(ON_CELLS[one](7), ON_CELLS[other](7)), stays)
                self.assertIs(pair(ON_CELLS[one](7), ON_CELLS[other](8)), False)
                self.assertIs(pair(ON_CELLS[one](8), ON_CELLS[other](7)), False)

    def test_whatever_c_is(self):
        for c in (0, 1):
            self.assertIs(pair(("put", 7, 0, c), ("load", 7)), True)
            self.assertIs(pair(("take", 7, c, 0), ("store", 7, 0)), True)

    def test_both_may_fault(self):
        # Readers and overs alone, so that none writes; the cells are unlike.
        faulting = [("load", 5), ("take", 6, 0, 1), ("over", 0, 1)]
        for one, other in itertools.permutations(faulting, 2):
            with self.subTest(one=one, other=other):
                self.assertIs(pair(one, other, sure=5), True)
        self.assertIs(pair(("load", 5), ("load", 5), sure=5), True)
        self.assertIs(pair(("load", 5), ("load", 4), sure=5), False)
        self.assertIs(pair(("load", 4), ("load", 5), sure=5), False)
        self.assertIs(pair(("over", 0, 0), ("over", 0, 1)), False)
        self.assertIs(pair(("over", 0, 1), ("over", 0, 0)), False)
        self.assertIs(pair(("over", 0, 1), ("load", 4), sure=5), False)

    def test_one_may_fault_and_the_other_writes(self):
        for fault in (("load", 5), ("take", 5, 0, 1), ("over", 0, 1), ("store", 5, 0), ("put", 5, 0, 1)):
            for write in (("store", 4, 0), ("put", 4, 0, 1)):
                with self.subTest(fault=fault, write=write):
                    self.assertIs(pair(fault, write, sure=5), True)
                    self.assertIs(pair(write, fault, sure=5), True)
            for other in (("load", 4), ("take", 4, 0, 1), ("plus", 0, 1), ("over", 0, 0)):
                self.assertIs(pair(fault, other, sure=5), False)
                self.assertIs(pair(other, fault, sure=5), False)

    def test_two_of_which_none_holds(self):
        rows = [("store", 0, 0), ("put", 1, 0, 1), ("load", 2), ("minus", 0, 1)]
        for one, other in itertools.product(rows, rows):
            if one != other or one[0] in ("load", "minus"):
                self.assertIs(pair(one, other), False, (one, other))

    def test_a_whole_block(self):
        self.assertEqual(must(MIXED), MIXED_PAIRS)
        self.assertIs(type(must(MIXED)), list)

    def test_rising(self):
        block = (0, tuple([("store" if at else "number",) + ((at, 0) if at else (1,)) for at in range(40)]))
        told = must(block)
        self.assertEqual(told, sorted(set(told)))
        self.assertEqual(len(told), 40 * 39 // 2)


class Ahead(unittest.TestCase):
    def test_a_whole_block(self):
        self.assertEqual([ahead(MIXED, row) for row in range(10)], MIXED_AHEAD)

    def test_by_way_of_others(self):
        chain = (64, (("load", 0), ("plus", 0, 0), ("plus", 1, 1), ("number", 4), ("plus", 2, 2)))
        self.assertEqual([ahead(chain, row) for row in range(5)], [[], [0], [0, 1], [], [0, 1, 2]])
        # Through a cell: what was stored is named by none behind.
        cell = (64, (("number", 1), ("store", 0, 0), ("load", 1), ("load", 0), ("plus", 3, 3)))
        self.assertEqual(ahead(cell, 4), [0, 1, 3])

    def test_not_the_row_itself_and_none_behind_it(self):
        block = (0, (("load", 0), ("load", 1), ("load", 2)))
        self.assertEqual([ahead(block, row) for row in range(3)], [[], [0], [0, 1]])

    def test_it_is_what_must_tells_carried_on(self):
        for block in (MIXED, (2, MIXED[1]), (0, MIXED[1])):
            pairs = must(block)
            for row in range(10):
                found, grown = set(), {row}
                while grown != found:
                    found = grown
                    grown = found | {first for first, second in pairs if second in found}
                self.assertEqual(ahead(block, row), sorted(found - {row}))

    def test_new_lists_each_time(self):
        for call in (lambda: must(MIXED), lambda: ahead(MIXED, 9), lambda: ahead(MIXED, 0)):
            first = call()
            kept = list(first)
            first.append(99)
            self.assertEqual(call(), kept)

    def test_equal_blocks_give_equal_answers(self):
        other = (4, tuple([tuple(list(row)) for row in MIXED[1]]))
        self.assertEqual(must(other), must(MIXED))
        self.assertEqual(ahead(other, 9), ahead(MIXED, 9))
        self.assertEqual(may_fault(other, 8), may_fault(MIXED, 8))


class Refused(unittest.TestCase):
    def test_no_block(self):
        for thing in ODD + [[4, MIXED[1]], (4, list(MIXED[1])), (65, ()), (False, ()), (0, (("plus", 0, 0),))]:
            with self.assertRaises(NoBlock):
                must(thing)
            for call in (may_fault, ahead):
                with self.assertRaises(NoBlock):
                    call(thing, 0)

    def test_no_row(self):
        for call in (may_fault, ahead):
            for row in ODD + [10, 11, 40, -1, -10, (2,), [2], "2"]:
                with self.assertRaises(NoRow) as caught:
                    call(MIXED, row)
                self.assertIs(caught.exception.row, row)
            with self.assertRaises(NoRow) as caught:
                call((3, ()), 0)
            self.assertEqual(caught.exception.row, 0)

    def test_no_block_comes_ahead_of_no_row(self):
        for call in (may_fault, ahead):
            for row in ODD + [-1, 10]:
                with self.assertRaises(NoBlock):
                    call((65, MIXED[1]), row)


if __name__ == "__main__":
    unittest.main()

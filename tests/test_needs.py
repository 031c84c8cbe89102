"""Promise [15] and the interface's part needs, with [1] as far as it speaks of it."""

import copy
import random
import unittest

from lanepacks.blocks import is_block, named
from lanepacks.errors import NoBlock
from lanepacks.needs import needless, pruned
from lanepacks.orders import may_fault
from lanepacks.running import run, values
from lanepacks.words import DEEDS
from things import NO_BLOCKS, any_block, any_cells

# Rows 1, 4, 5 and 6 are needless: 6 is named by none, 5 by 6 alone, 4 by 5 and 6 alone.
BLOCK = (2, (
    ("load", 0), ("number", 9), ("number", 3), ("plus", 0, 2), ("load", 1), ("times", 4, 2), ("most", 5, 4),
    ("store", 1, 3), ("load", 2),
))


def needless_by_words(block):
    """The needless rows by the words of [15]: grown until no more row is none."""
    rows = range(len(block[1]))
    needed = {row for row in rows if block[1][row][0] in ("store", "put") or may_fault(block, row)}
    while True:
        grown = needed | {name for row in needed for name in named(block, row)}
        if grown == needed:
            return [row for row in rows if row not in needed]
        needed = grown


class Needless(unittest.TestCase):
    def check(self, block, rows):
        told = needless(block)
        self.assertIs(type(told), list)
        self.assertEqual(told, rows)

    def test_ordinary(self):
        self.check(BLOCK, [1, 4, 5, 6])
        self.check((0, ()), [])

    def test_a_row_named_by_none(self):
        rows = [(deed, 0, 0) for deed in DEEDS] + [("pick", 0, 0, 0), ("number", 4), ("load", 1), ("take", 1, 0, 0)]
        for row in rows:
            self.check((2, (("number", 1), row, ("store", 0, 0))), [1])

    def test_a_row_that_only_needless_rows_name(self):
        chain = (("load", 0), ("plus", 0, 0), ("plus", 1, 1), ("plus", 2, 0))
        self.check((1, chain), [0, 1, 2, 3])
        self.check((1, chain + (("store", 0, 3),)), [])
        self.check((1, chain + (("store", 0, 1),)), [2, 3])
        self.check((1, chain + (("store", 0, 0),)), [1, 2, 3])

    def test_one_named_by_a_needless_row_and_by_another(self):
        self.check((1, (("load", 0), ("plus", 0, 0), ("store", 0, 0))), [1])

    def test_one_that_may_fault_and_is_named_by_none(self):
        self.check((1, (("load", 0), ("load", 1))), [0])
        self.check((1, (("number", 0), ("take", 1, 0, 0), ("take", 0, 0, 0))), [2])
        self.check((1, (("number", 0), ("over", 0, 0))), [])
        self.check((1, (("number", 1), ("over", 0, 0))), [0, 1])
        self.check((1, (("number", 1), ("load", 0), ("over", 0, 1))), [])
        self.check((1, (("number", 1), ("load", 0), ("over", 1, 0))), [0, 1, 2])

    def test_one_that_writes(self):
        self.check((4, (("number", 1), ("store", 0, 0))), [])
        self.check((4, (("number", 1), ("number", 0), ("put", 0, 0, 1))), [])
        # Whatever is written behind it.
        self.check((4, (("number", 1), ("store", 0, 0), ("store", 0, 0))), [])

    def test_each_row_that_is_named_is_needed(self):
        numbers = (("number", 1), ("number", 2), ("number", 3), ("number", 4))
        self.check((4, numbers + (("pick", 0, 1, 2), ("store", 0, 4))), [3])
        self.check((4, numbers + (("put", 0, 1, 3),)), [0, 2])
        self.check((4, numbers + (("take", 9, 2, 0),)), [1, 3])

    def test_all_of_them(self):
        self.check((0, (("number", 5),) * 40), list(range(40)))

    def test_by_dice(self):
        dice = random.Random(15)
        seen = 0
        for turn in range(500):
            block = any_block(dice, 12)
            self.check(block, needless_by_words(block))
            seen += 0 < len(needless(block)) < len(block[1])
        self.assertGreater(seen, 100)


class Pruned(unittest.TestCase):
    def test_ordinary(self):
        self.assertEqual(pruned(BLOCK), (
            (2, (("load", 0), ("number", 3), ("plus", 0, 1), ("store", 1, 2), ("load", 2))),
            [0, None, 1, 2, None, None, None, 3, 4],
        ))
        self.assertEqual(pruned((7, ())), ((7, ()), []))
        self.assertEqual(pruned((7, (("number", 5),))), ((7, ()), [None]))

    def test_each_kind_of_row_is_renumbered(self):
        rows = (("number", 9), ("load", 0), ("number", 8), ("load", 1), ("number", 7), ("load", 2))
        ends = {
            ("over", 1, 3): ("over", 0, 1), ("put", 3, 5, 1): ("put", 3, 1, 0), ("store", 5, 3): ("store", 5, 0),
            ("take", 9, 3, 5): ("take", 9, 0, 1), ("take", 9, 5, 3): ("take", 9, 1, 0), ("load", 5): ("load", 5),
        }
        for row, meant in ends.items():
            block, numbers = pruned((3, rows + (row,)))
            self.assertEqual(block[1][-1], meant)
            self.assertEqual(numbers[-1], len(block[1]) - 1)
        block, numbers = pruned((9, rows + (("pick", 5, 1, 3), ("store", 5, 6))))
        self.assertEqual(block[1][3:], (("pick", 2, 0, 1), ("store", 5, 3)))
        self.assertEqual(numbers, [None, 0, None, 1, None, 2, 3, 4])

    def test_without_needless_rows_it_stays(self):
        block = (2, (("load", 0), ("number", 3), ("plus", 0, 1), ("store", 1, 2)))
        self.assertEqual(pruned(block), (block, [0, 1, 2, 3]))

    def test_it_does_the_same(self):
        dice = random.Random(16)
        seen = set()
        for turn in range(500):
            block = any_block(dice, 12)
            left, numbers = pruned(block)
            self.assertIs(is_block(left), True)
            self.assertEqual(left[0], block[0])
            self.assertEqual([row for row, number in enumerate(numbers) if number is None], needless(block))
            self.assertEqual([number for number in numbers if number is not None], list(range(len(left[1]))))
            self.assertEqual(needless(left), [])
            for again in range(4):
                cells = any_cells(dice, block[0], 8)
                then, fault = run(block, cells)
                meant = None if fault is None else (numbers[fault[0]], fault[1])
                self.assertEqual(run(left, cells), (then, meant))
                words = values(block, cells)
                kept = [word for word, number in zip(words, numbers) if number is not None]
                self.assertEqual(values(left, cells), kept)
                seen.add(None if fault is None else fault[1])
        self.assertEqual(seen, {None, "beyond", "nought"})

    def test_kinds_and_new_lists_each_time(self):
        first, second = pruned(BLOCK), pruned(BLOCK)
        self.assertIs(type(first), tuple)
        self.assertIs(type(first[1]), list)
        self.assertIsNot(first[1], second[1])
        first[1].clear()
        self.assertEqual(pruned(BLOCK), second)
        told = needless(BLOCK)
        told.clear()
        self.assertEqual(needless(BLOCK), [1, 4, 5, 6])

    def test_what_is_handed_in_stays(self):
        block = copy.deepcopy(BLOCK)
        pruned(block)
        needless(block)
        self.assertEqual(block, BLOCK)


class Refused(unittest.TestCase):
    def test_no_block(self):
        for thing in NO_BLOCKS:
            with self.assertRaises(NoBlock):
                needless(thing)
            with self.assertRaises(NoBlock):
                pruned(thing)


if __name__ == "__main__":
    unittest.main()

"""Promise [13] and the interface's part sheets, with [1] as far as it speaks of it."""

import copy
import itertools
import random
import unittest

from lanepacks.errors import NoBlock, NoProgram, NoRow
from lanepacks.lowering import lowered
from lanepacks.machines import is_program, run_program
from lanepacks.plans import is_valid
from lanepacks.running import run
from lanepacks.sheets import shows, traced
from lanepacks.words import DEEDS
from things import NO_BLOCKS, ODD, ON_CELLS, all_plans, any_block, any_cells, lane_block

NO_PROGRAMS = ODD + [
    [2, 0, ()], (2, 0, []), (2, 0), (5, 0, ()), (1, 0, ()), (True, 0, ()), (2, 65, ()), (2, False, ()),
    (2, 0, (("plus", 0, 0),)), (2, 0, (("number", 0),) * 401), (2, 0, (("wide", "number", [1, 2]),)),
]

# A row of each kind that makes something, in the order of a program of 3 lanes.
WORDS = (3, 4, (
    ("number", 7),                             # 0
    ("load", 1),                               # 1
    ("plus", 0, 1),                            # 2
    ("pick", 0, 1, 2),                         # 3
    ("take", 2, 0, 1),                         # 4
    ("wide", "number", (5, 6, 7)),             # 5
    ("wide", "load", 0),                       # 6
    ("wide", "plus", 5, 6),                    # 7
    ("wide", "pick", 5, 6, 7),                 # 8
    ("wide", "take", 0, 5, 6),                 # 9
    ("gather", (0, 1, 4)),                     # 10
    ("shuffle", 5, 6, (0, 5, 3)),              # 11
    ("lane", 7, 2),                            # 12
    ("lane", 5, 1),                            # 13
    ("store", 0, 1),                           # 14
    ("put", 1, 0, 2),                          # 15
    ("wide", "store", 0, 5),                   # 16
    ("wide", "put", 0, 5, 6),                  # 17
    ("lane", 11, 0),                           # 18
    ("lane", 11, 1),                           # 19
    ("lane", 10, 0),                           # 20
    ("gather", (12, 13, 18)),                  # 21
    ("shuffle", 21, 11, (5, 0, 1)),            # 22
    ("lane", 22, 1),                           # 23
    ("shuffle", 22, 22, (0, 4, 2)),            # 24
))


class Traced(unittest.TestCase):
    def check(self, row, lane, answer):
        told = traced(WORDS, row, lane)
        self.assertIs(type(told), tuple)
        self.assertEqual(told, answer)

    def test_numbers(self):
        self.check(0, None, ("number", 7))
        for lane, word in enumerate((5, 6, 7)):
            self.check(5, lane, ("number", word))

    def test_those_that_are_themselves(self):
        for row in (1, 2, 3, 4):
            self.check(row, None, (row, None))
        for row, lane in itertools.product((6, 7, 8, 9), range(3)):
            self.check(row, lane, (row, lane))

    def test_each_deed_is_itself(self):
        for deed in DEEDS:
            program = (2, 0, (("number", 1), (deed, 0, 0), ("wide", "number", (1, 1)), ("wide", deed, 2, 2)))
            self.assertEqual(traced(program, 1), (1, None))
            self.assertEqual(traced(program, 3, 1), (3, 1))

    def test_lane(self):
        self.check(12, None, (7, 2))
        self.check(13, None, ("number", 6))

    def test_gather(self):
        self.check(10, 0, ("number", 7))
        self.check(10, 1, (1, None))
        self.check(10, 2, (4, None))

    def test_shuffle(self):
        self.check(11, 0, ("number", 5))
        self.check(11, 1, (6, 2))
        self.check(11, 2, (6, 0))
        for lanes in (2, 3, 4):
            loads = (("wide", "load", 0), ("wide", "load", 9))
            for at in range(2 * lanes):
                program = (lanes, 0, loads + (("shuffle", 1, 0, (at,) * lanes),))
                meant = (1, at) if at < lanes else (0, at - lanes)
                self.assertEqual([traced(program, 2, lane) for lane in range(lanes)], [meant] * lanes)

    def test_traced_again(self):
        self.check(18, None, ("number", 5))
        self.check(19, None, (6, 2))
        self.check(20, None, ("number", 7))
        self.check(21, 0, (7, 2))
        self.check(21, 1, ("number", 6))
        self.check(21, 2, ("number", 5))
        self.check(22, 0, (6, 0))
        self.check(22, 1, (7, 2))
        self.check(22, 2, ("number", 6))
        self.check(23, None, (7, 2))
        self.check(24, 0, (6, 0))
        self.check(24, 1, (7, 2))
        self.check(24, 2, ("number", 6))

    def test_traced_through_hundreds_of_rows(self):
        rows = [("wide", "load", 0)] + [("shuffle", at, at, (1, 0)) for at in range(399)]
        self.assertEqual(traced((2, 0, tuple(rows)), 399, 0), (0, 1))
        rows = [("load", 0)]
        for at in range(199):
            rows += [("gather", (2 * at, 2 * at)), ("lane", 2 * at + 1, 1)]
        self.assertEqual(traced((2, 0, tuple(rows)), 398), (0, None))

    def test_the_lane_has_a_default(self):
        self.assertEqual(traced(WORDS, 1), (1, None))
        self.assertEqual(traced(WORDS, 6, lane=2), (6, 2))
        self.assertEqual(traced(program=WORDS, row=6, lane=0), (6, 0))

    def test_what_is_handed_in_stays(self):
        program = copy.deepcopy(WORDS)
        traced(program, 24, 0)
        self.assertEqual(program, WORDS)


class TracedRefused(unittest.TestCase):
    def no(self, row, *lane):
        with self.assertRaises(NoRow) as caught:
            traced(WORDS, row, *lane)
        self.assertIs(caught.exception.row, row)

    def test_no_program(self):
        for thing in NO_PROGRAMS:
            for row, lane in ((0, None), (99, None), (None, True)):
                with self.assertRaises(NoProgram):
                    traced(thing, row, lane)

    def test_no_such_row(self):
        for row in ODD + [25, 26, 400, -1, -25, (1,), [1], "1"]:
            for lane in ((), (None,), (0,)):
                self.no(row, *lane)
        with self.assertRaises(NoRow) as caught:
            traced((2, 0, ()), 0)
        self.assertEqual(caught.exception.row, 0)

    def test_rows_that_make_no_word(self):
        for row, lane in itertools.product((14, 15, 16, 17), (None, 0, 1, 2)):
            self.no(row, lane)

    def test_a_lane_of_a_row_that_has_none(self):
        for row, lane in itertools.product((0, 1, 2, 3, 4, 12, 13), (0, 1, 2, -1, True, False, "", [], ())):
            self.no(row, lane)

    def test_no_lane_of_a_row_that_has_some(self):
        for row in (5, 6, 7, 8, 9, 10, 11):
            self.no(row)
            self.no(row, None)

    def test_lanes_that_are_not_there(self):
        for row in (5, 6, 7, 8, 9, 10, 11):
            for lane in [3, 4, -1, -3, "0", (0,)] + [thing for thing in ODD if thing is not None]:
                self.no(row, lane)
        with self.assertRaises(NoRow):
            traced((2, 0, (("wide", "load", 0),)), 0, 2)
        self.assertEqual(traced((4, 0, (("wide", "load", 0),)), 0, 3), (0, 3))

    def test_truths_in_the_stead_of_numbers(self):
        self.no(True)
        self.no(False)
        self.no(6, True)
        self.no(6, False)


# Two cells are added up with a number and stored, then a row alone.
BLOCK = (6, (
    ("load", 0), ("load", 1), ("number", 5), ("plus", 0, 2), ("plus", 1, 2), ("store", 2, 3), ("store", 3, 4),
    ("load", 7),
))
PROGRAM = (2, 6, (
    ("wide", "load", 0), ("wide", "number", (5, 5)), ("wide", "plus", 0, 1), ("wide", "store", 2, 2), ("load", 7),
))
SHEET = [(0, 0), (0, 1), None, (2, 0), (2, 1), (3, 0), (3, 1), (4, None)]


class Shows(unittest.TestCase):
    def yes(self, block, program, thing):
        self.assertIs(shows(block, program, thing), True, (block, program, thing))

    def no(self, block, program, thing):
        self.assertIs(shows(block, program, thing), False)

    def test_a_sheet(self):
        self.yes(BLOCK, PROGRAM, SHEET)
        self.yes((3, ()), (2, 3, ()), [])
        self.yes((3, (("number", 1),)), (2, 3, ()), [None])

    def test_that_of_a_plan(self):
        for lanes, plan in ((2, ()), (2, ((0, 1),)), (2, ((0, 1), (3, 4), (5, 6))), (4, ())):
            program, entries = lowered(BLOCK, lanes, plan)
            self.yes(BLOCK, program, entries)

    def test_another_sure(self):
        for sure in (0, 5, 7, 64):
            self.no(BLOCK, (2, sure, PROGRAM[2]), SHEET)
            self.no((sure, BLOCK[1]), PROGRAM, SHEET)
        self.no((3, ()), (2, 4, ()), [])

    def test_an_entry_more_or_fewer(self):
        self.no(BLOCK, PROGRAM, SHEET[:-1])
        self.no(BLOCK, PROGRAM, SHEET + [None])
        self.no(BLOCK, PROGRAM, SHEET + [(4, None)])
        self.no(BLOCK, PROGRAM, [])
        self.no((3, ()), (2, 3, ()), [None])
        self.no((3, (("number", 1),)), (2, 3, ()), [])

    def changed(self, at, entry):
        return SHEET[:at] + [entry] + SHEET[at + 1:]

    def test_none_for_a_row_that_is_no_number_row(self):
        for at in (0, 1, 3, 4, 5, 6, 7):
            self.no(BLOCK, PROGRAM, self.changed(at, None))
        # Though nothing else would speak against it.
        plain = (1, (("number", 1), ("plus", 0, 0)))
        self.no(plain, (2, 1, ()), [None, None])
        self.yes(plain, (2, 1, (("number", 1), ("plus", 0, 0))), [None, (1, None)])

    def test_an_entry_for_a_number_row(self):
        for entry in ((1, 0), (1, 1), (1, None), (4, None), ("number", 5)):
            self.no(BLOCK, PROGRAM, self.changed(2, entry))
        number = (0, (("number", 5),))
        self.no(number, (2, 0, (("number", 5),)), [(0, None)])
        self.yes(number, (2, 0, (("number", 5),)), [None])

    def test_an_entry_twice(self):
        block = (2, (("number", 1), ("plus", 0, 0), ("plus", 0, 0)))
        program = (2, 2, (("number", 1), ("plus", 0, 0), ("plus", 0, 0)))
        self.yes(block, program, [None, (1, None), (2, None)])
        self.yes(block, program, [None, (2, None), (1, None)])
        self.no(block, program, [None, (1, None), (1, None)])
        wide = (2, 2, (("wide", "number", (1, 1)), ("wide", "plus", 0, 0)))
        self.yes(block, wide, [None, (1, 0), (1, 1)])
        self.no(block, wide, [None, (1, 1), (1, 1)])

    def test_a_lane_where_there_is_none(self):
        for lane in (0, 1, 2, -1):
            self.no(BLOCK, PROGRAM, self.changed(7, (4, lane)))

    def test_none_where_there_is_a_lane(self):
        for at in (0, 1, 3, 4, 5, 6):
            self.no(BLOCK, PROGRAM, self.changed(at, (SHEET[at][0], None)))

    def test_lanes_and_rows_that_are_not_there(self):
        for lane in (2, 3, -1, -2):
            self.no(BLOCK, PROGRAM, self.changed(1, (0, lane)))
        for row in (5, 6, -1, -5, 400):
            self.no(BLOCK, PROGRAM, self.changed(7, (row, None)))
            self.no(BLOCK, PROGRAM, self.changed(0, (row, 0)))

    def test_numbers_beyond_that_would_fit_else(self):
        block = (3, (("load", 0), ("load", 1), ("load", 2)))
        self.no(block, (2, 3, (("wide", "load", 0),)), [(0, 0), (0, 1), (0, 2)])
        self.no(block, (2, 3, (("wide", "load", 1),)), [(0, -1), (0, 0), (0, 1)])
        self.yes(block, (3, 3, (("wide", "load", 0),)), [(0, 0), (0, 1), (0, 2)])
        rows = (("number", 1), ("plus", 0, 0))
        self.no((0, rows), (2, 0, rows), [None, (-1, None)])
        self.yes((0, rows), (2, 0, rows), [None, (1, None)])

    def with_row(self, at, row):
        program = (2, 6, PROGRAM[2][:at] + (row,) + PROGRAM[2][at + 1:])
        self.assertIs(is_program(program), True, row)
        return program

    def test_another_deed(self):
        for deed in DEEDS:
            program = self.with_row(2, ("wide", deed, 0, 1))
            self.assertIs(shows(BLOCK, program, SHEET), deed == "plus")
        self.no(BLOCK, self.with_row(2, ("wide", "pick", 0, 0, 1)), SHEET)
        self.no(BLOCK, self.with_row(0, ("wide", "number", (0, 0))), SHEET)
        self.no(BLOCK, self.with_row(4, ("number", 7)), SHEET)
        self.no(BLOCK, self.with_row(4, ("lane", 0, 0)), SHEET)
        self.no(BLOCK, self.with_row(2, ("shuffle", 0, 1, (0, 1))), SHEET)
        # Load and take, store and put of the same cell are unlike deeds.
        rows = (("number", 1), ("load", 0), ("store", 1, 0))
        for taken, put in itertools.product((("load", 0), ("take", 0, 0, 0)), (("store", 1, 0), ("put", 1, 0, 0))):
            good = taken[0] == "load" and put[0] == "store"
            told = shows((2, rows), (2, 2, (rows[0], taken, put)), [None, (1, None), (2, None)])
            self.assertIs(told, good)

    def test_each_deed(self):
        rows = [(deed, 0, 1) for deed in DEEDS] + [("pick", 0, 1, 0)] + [made(4, 0, 1) for made in ON_CELLS.values()]
        for row, other in itertools.product(rows, rows):
            head = (("load", 0), ("number", 3))
            told = shows((9, head + (row,)), (2, 9, head + (other,)), [(0, None), None, (2, None)])
            self.assertIs(told, row == other)

    def test_another_cell(self):
        for place in (0, 1, 6, 8, 63):
            self.no(BLOCK, self.with_row(4, ("load", place)), SHEET)
        for place in (1, 2, 7):
            self.no(BLOCK, self.with_row(0, ("wide", "load", place)), SHEET)
        for place in (1, 3, 7):
            self.no(BLOCK, self.with_row(3, ("wide", "store", place, 2)), SHEET)
        # Each lane has its own cell.
        loads = (4, (("load", 2), ("load", 1)))
        self.no(loads, (2, 4, (("wide", "load", 1),)), [(0, 0), (0, 1)])
        self.yes(loads, (2, 4, (("wide", "load", 1),)), [(0, 1), (0, 0)])
        self.no(loads, (2, 4, (("wide", "load", 2),)), [(0, 0), (0, 1)])

    def test_each_deed_on_another_cell(self):
        for deed, made in ON_CELLS.items():
            head = (("number", 1), ("number", 0))
            for place in range(5):
                program = (2, 9, head + (made(place, 0, 1),))
                self.assertIs(shows((9, head + (made(2, 0, 1),)), program, [None, None, (2, None)]), place == 2)

    def test_a_cell_above_63(self):
        block = (0, (("load", 62), ("load", 63)))
        self.yes(block, (2, 0, (("wide", "load", 62),)), [(0, 0), (0, 1)])
        self.no(block, (3, 0, (("wide", "load", 62),)), [(0, 0), (0, 1)])
        self.no(block, (2, 0, (("wide", "load", 63), ("load", 62))), [(1, None), (0, 0)])

    def test_a_word_that_is_traced_elsewhere(self):
        moved = {
            (0, 1): ("shuffle", 0, 0, (0, 1)), (1, 0): ("shuffle", 0, 0, (1, 0)),
            (0, 0): ("shuffle", 0, 0, (0, 2)), (1, 1): ("shuffle", 0, 0, (1, 3)),
        }
        for lanes, row in moved.items():
            program = (2, 6, PROGRAM[2][:2] + (row, ("wide", "plus", 2, 1), ("wide", "store", 2, 3), ("load", 7)))
            sheet = [(0, 0), (0, 1), None, (3, 0), (3, 1), (4, 0), (4, 1), (5, None)]
            self.assertIs(shows(BLOCK, program, sheet), lanes == (0, 1))
        # Another number, and the two named the other way round.
        for words in ((5, 6), (6, 5), (0, 0)):
            self.no(BLOCK, self.with_row(1, ("wide", "number", words)), SHEET)
        self.no(BLOCK, self.with_row(2, ("wide", "plus", 1, 0)), SHEET)
        self.no(BLOCK, self.with_row(3, ("wide", "store", 2, 0)), SHEET)
        self.no(BLOCK, self.with_row(3, ("wide", "store", 2, 1)), SHEET)

    def test_each_spot_of_a_row_counts(self):
        head = (("load", 0), ("load", 1), ("number", 3))
        entries = [(0, None), (1, None), None, (3, None)]
        rows = [("minus", 0, 1), ("pick", 0, 1, 2), ("take", 2, 0, 1), ("store", 2, 0), ("put", 2, 0, 1)]
        for row in rows:
            self.yes((9, head + (row,)), (2, 9, head + (row,)), entries)
            first = len(row) - {"minus": 2, "pick": 3, "take": 2, "store": 1, "put": 2}[row[0]]
            for spot in range(first, len(row)):
                for name in range(3):
                    other = row[:spot] + (name,) + row[spot + 1:]
                    told = shows((9, head + (row,)), (2, 9, head + (other,)), entries)
                    self.assertIs(told, other == row)

    def test_numbers_are_told_by_what_they_are(self):
        block = (0, (("number", 3), ("number", 3), ("plus", 0, 1)))
        for row in (("number", 3), ("number", 4)):
            program = (2, 0, (row, ("plus", 0, 0)))
            self.assertIs(shows(block, program, [None, None, (1, None)]), row[1] == 3)
        # A load is no number, though it might load it, and the other way round.
        self.no(block, (2, 0, (("number", 3), ("number", 0), ("plus", 0, 1))), [None, None, (2, None)])
        load = (1, (("load", 0), ("plus", 0, 0)))
        self.no(load, (2, 1, (("load", 0), ("number", 3), ("plus", 0, 1))), [(0, None), (2, None)])

    def test_by_gather_and_lane(self):
        block = (4, (("load", 0), ("load", 2), ("plus", 0, 1), ("plus", 1, 0), ("store", 3, 3)))
        rows = (("load", 0), ("load", 2), ("gather", (0, 1)), ("gather", (1, 0)), ("wide", "plus", 2, 3), ("lane", 4, 1),
                ("store", 3, 5))
        self.yes(block, (2, 4, rows), [(0, None), (1, None), (4, 0), (4, 1), (6, None)])
        wrong = rows[:5] + (("lane", 4, 0),) + rows[6:]
        self.no(block, (2, 4, wrong), [(0, None), (1, None), (4, 0), (4, 1), (6, None)])

    def test_one_more_row_on_cells_or_over(self):
        extra = [("load", 0), ("take", 0, 4, 4), ("store", 0, 4), ("put", 0, 4, 4), ("over", 4, 4)]
        extra += [("wide", "load", 0), ("wide", "take", 0, 1, 1), ("wide", "store", 0, 1), ("wide", "put", 0, 1, 1)]
        extra += [("wide", "over", 1, 1)]
        for row in extra:
            program = (2, 6, PROGRAM[2] + (row,))
            self.assertIs(is_program(program), True)
            self.no(BLOCK, program, SHEET)

    def test_more_rows_that_do_neither(self):
        extra = [(deed, 4, 4) for deed in DEEDS if deed != "over"]
        extra += [("wide", deed, 1, 1) for deed in DEEDS if deed != "over"]
        extra += [("pick", 4, 4, 4), ("wide", "pick", 1, 1, 1), ("number", 3), ("wide", "number", (0, 1))]
        extra += [("gather", (4, 4)), ("shuffle", 0, 1, (0, 3)), ("lane", 0, 1)]
        for row in extra:
            self.yes(BLOCK, (2, 6, PROGRAM[2] + (row,)), SHEET)

    def test_one_lane_that_is_no_entry(self):
        # The second lane of a deed that neither touches cells nor is over may be left out.
        for deed in DEEDS:
            block = (0, (("number", 1), (deed, 0, 0)))
            program = (2, 0, (("wide", "number", (1, 1)), ("wide", deed, 0, 0)))
            self.assertIs(shows(block, program, [None, (1, 0)]), deed != "over")
        self.no((2, (("load", 0),)), (2, 2, (("wide", "load", 0),)), [(0, 0)])
        self.no((2, (("load", 1),)), (2, 2, (("wide", "load", 0),)), [(0, 1)])

    def test_two_rows_the_other_way_round_that_must_stay(self):
        stores = (("store", 0, 0), ("store", 0, 1))
        numbers = (("number", 1), ("number", 2))
        block = (4, numbers + stores)
        self.yes(block, (2, 4, numbers + stores), [None, None, (2, None), (3, None)])
        self.no(block, (2, 4, numbers + stores[::-1]), [None, None, (3, None), (2, None)])

    def test_each_reason_why_rows_must_stay(self):
        numbers = (("number", 1), ("number", 0))
        pairs = [
            (("store", 0, 0), ("load", 0)), (("load", 0), ("put", 0, 0, 1)), (("take", 0, 0, 1), ("store", 0, 0)),
            (("load", 5), ("load", 6)), (("over", 0, 1), ("load", 5)), (("load", 5), ("store", 0, 0)),
            (("store", 0, 0), ("over", 0, 1)), (("put", 0, 0, 0), ("take", 9, 0, 0)),
        ]
        for first, second in pairs:
            block, program = (4, numbers + (first, second)), (2, 4, numbers + (second, first))
            self.no(block, program, [None, None, (3, None), (2, None)])
            self.yes((4, program[2]), program, [None, None, (2, None), (3, None)])
        free = [(("store", 0, 0), ("load", 1)), (("load", 0), ("load", 1)), (("load", 5), ("load", 1)),
                (("over", 0, 0), ("store", 0, 0)), (("plus", 0, 0), ("over", 0, 1))]
        for first, second in free:
            self.yes((4, numbers + (first, second)), (2, 4, numbers + (second, first)), [None, None, (3, None), (2, None)])

    def test_lanes_the_other_way_round_that_must_stay(self):
        loads = (("load", 5), ("load", 4))
        self.yes((6, loads), (2, 6, (("wide", "load", 4),)), [(0, 1), (0, 0)])
        # Both may fault, so that the first must stay ahead.
        self.no((0, loads), (2, 0, (("wide", "load", 4),)), [(0, 1), (0, 0)])
        self.yes((0, loads[::-1]), (2, 0, (("wide", "load", 4),)), [(0, 0), (0, 1)])
        overs = (0, (("number", 0), ("over", 0, 0), ("over", 0, 0)))
        wide = (2, 0, (("wide", "number", (0, 0)), ("wide", "over", 0, 0)))
        self.yes(overs, wide, [None, (1, 0), (1, 1)])
        self.no(overs, wide, [None, (1, 1), (1, 0)])

    def test_a_later_row_with_a_lesser_lane(self):
        rows = (("load", 4), ("load", 5), ("load", 1), ("load", 2))
        program = (2, 0, (("wide", "load", 4), ("wide", "load", 1)))
        self.yes((0, rows), program, [(0, 0), (0, 1), (1, 0), (1, 1)])
        # Row 1 is (0, 1), less than (1, 0), which is that of a lesser lane but a greater row.
        self.no((0, rows[2:] + rows[:2]), program, [(1, 0), (1, 1), (0, 0), (0, 1)])

    def test_lists_in_the_stead_of_tuples(self):
        self.no(BLOCK, PROGRAM, tuple(SHEET))
        for at in (0, 3, 6, 7):
            self.no(BLOCK, PROGRAM, self.changed(at, list(SHEET[at])))

    def test_truths_in_the_stead_of_numbers(self):
        for at, entry in ((0, (False, 0)), (0, (0, False)), (1, (0, True)), (1, (False, True)), (3, (2, False))):
            self.assertEqual(SHEET[at], entry)
            self.no(BLOCK, PROGRAM, self.changed(at, entry))
        block = (2, (("number", 1), ("load", 0)))
        self.yes(block, (2, 2, (("number", 1), ("load", 0))), [None, (1, None)])
        self.no(block, (2, 2, (("number", 1), ("load", 0))), [None, (True, None)])
        self.no(block, (2, 2, (("number", 1), ("load", 0))), [False, (1, None)])

    def test_other_kinds(self):
        for thing in ODD:
            self.no(BLOCK, PROGRAM, thing)
            for at in range(8):
                if not (at == 2 and thing is None):
                    self.no(BLOCK, PROGRAM, self.changed(at, thing))
            if thing is not None:
                self.no(BLOCK, PROGRAM, self.changed(7, (4, thing)))
            self.no(BLOCK, PROGRAM, self.changed(7, (thing, None)))
            self.no(BLOCK, PROGRAM, self.changed(0, (0, thing)))
        for entry in ((), (4,), (4, None, None), (0, 0, 0), 4, "40"):
            self.no(BLOCK, PROGRAM, self.changed(7, entry))

    def test_what_is_handed_in_stays(self):
        sheet = list(SHEET)
        block, program = copy.deepcopy(BLOCK), copy.deepcopy(PROGRAM)
        shows(block, program, sheet)
        self.assertEqual((block, program, sheet), (BLOCK, PROGRAM, SHEET))


class ByDice(unittest.TestCase):
    def test_each_plan_has_a_sheet(self):
        dice = random.Random(3)
        for turn in range(150):
            block = any_block(dice, 6)
            lanes = dice.choice((2, 3))
            for plan in all_plans(block, lanes):
                if is_valid(block, lanes, plan):
                    program, entries = lowered(block, lanes, plan)
                    self.assertIs(shows(block, program, entries), True)

    def test_what_has_a_sheet_does_the_same(self):
        dice = random.Random(4)
        seen = {True: 0, False: 0}
        for turn in range(3000):
            lanes = dice.choice((2, 3))
            block = lane_block(dice, lanes, dice.randint(1, 4), places=3)
            packs = [tuple(range(first, first + lanes)) for first in range(0, len(block[1]), lanes)]
            plan = tuple([pack for pack in packs if block[1][pack[0]][0] != "number"])
            if not is_valid(block, lanes, plan):
                continue
            program, entries = lowered(block, lanes, plan)
            program, entries = spoiled(dice, program), list(entries)
            if len(entries) > 1 and dice.random() < 0.5:
                a, b = dice.sample(range(len(entries)), 2)
                entries[a], entries[b] = entries[b], entries[a]
            if is_program(program):
                good = shows(block, program, entries)
                seen[good] += 1
                if good:
                    self.same(dice, block, program, entries)
        self.assertGreater(min(seen.values()), 100)

    def same(self, dice, block, program, entries):
        for turn in range(5):
            cells = any_cells(dice, block[0], 9)
            then, fault = run(block, cells)
            meant = None if fault is None else entries[fault[0]] + (fault[1],)
            self.assertEqual(run_program(program, cells), (then, meant), (block, program, entries, cells))


def spoiled(dice, program):
    """The program with a number somewhere one more or less, with two rows exchanged, or as it was."""
    lanes, sure, rows = program
    rows = list(rows)
    at = dice.randrange(len(rows))
    way = dice.randrange(4)
    if way == 0:
        row = list(rows[at])
        spots = [spot for spot, part in enumerate(row) if isinstance(part, int)]
        if spots:
            spot = dice.choice(spots)
            row[spot] = max(0, row[spot] + dice.choice((-1, 1)))
        rows[at] = tuple(row)
    if way == 1 and at:
        rows[at - 1], rows[at] = rows[at], rows[at - 1]
    if way == 2:
        rows.append(rows[at])
    return (lanes, sure, tuple(rows))


class ShowsRefused(unittest.TestCase):
    def test_no_block(self):
        for thing in NO_BLOCKS:
            for program in (PROGRAM, None, (5, 0, ())):
                with self.assertRaises(NoBlock):
                    shows(thing, program, [])

    def test_no_program(self):
        for thing in NO_PROGRAMS:
            for sheet in ([], None, SHEET):
                with self.assertRaises(NoProgram):
                    shows(BLOCK, thing, sheet)


if __name__ == "__main__":
    unittest.main()

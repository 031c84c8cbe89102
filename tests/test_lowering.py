"""Promise [12] and the interface's part lowering, with [1] as far as it speaks of it."""

import copy
import itertools
import random
import unittest

from lanepacks.errors import NoBlock, NoLanes, NoPlan, NotValid
from lanepacks.lowering import lowered
from lanepacks.machines import cost_of, is_program, run_program
from lanepacks.plans import cost, is_valid
from lanepacks.running import run
from lanepacks.sheets import shows
from lanepacks.words import DEEDS
from things import NO_BLOCKS, NO_LANES, ODD, ON_CELLS, all_plans, any_block, any_cells, is_empty_tuple, lane_block

# The two sums wait for one another by way of row 2.
CROSSED = (4, (("load", 0), ("plus", 0, 0), ("minus", 1, 1), ("plus", 2, 2)))

LOADS = tuple([("load", place) for place in range(12)])


def stored(*rows):
    """Stores, behind the twelve loads, of these rows at 12 and on."""
    return LOADS + tuple([("store", 12 + at, row) for at, row in enumerate(rows)])


class Led(unittest.TestCase):
    """What each test asks of a block and a plan that are led over."""

    def led(self, block, lanes, plan):
        """Looks at the form of what comes: the program and the list."""
        told = lowered(block, lanes, plan)
        self.assertIs(type(told), tuple)
        program, entries = told
        self.assertIs(is_program(program), True)
        self.assertEqual(program[:2], (lanes, block[0]))
        self.assertEqual(cost_of(program), cost(block, lanes, plan))
        self.assertIs(type(entries), list)
        self.assertEqual(len(entries), len(block[1]))
        lane_of = {row: lane for pack in plan for lane, row in enumerate(pack)}
        for at, (row, entry) in enumerate(zip(block[1], entries)):
            if row[0] == "number":
                self.assertIsNone(entry)
                continue
            self.assertIs(type(entry), tuple)
            self.assertEqual(entry[1], lane_of.get(at))
            there = program[2][entry[0]]
            self.assertEqual(there[:2] if at in lane_of else there[:1], (("wide",) if at in lane_of else ()) + row[:1])
        for pack in plan:
            self.assertEqual(len({entries[row][0] for row in pack}), 1)
        self.assertIs(shows(block, program, entries), True)
        return told

    def runs(self, block, told, cells):
        """Looks at a run on cells: the fault of the block."""
        program, entries = told
        then, fault = run(block, cells)
        meant = None if fault is None else entries[fault[0]] + (fault[1],)
        self.assertEqual(run_program(program, cells), (then, meant), (block, program, cells))
        return fault

    def check(self, block, lanes, plan, words=(3, 0, 7, 999, 2, 1)):
        """Led over, on cells few and many: the program and the faults of the block that were seen."""
        told = self.led(block, lanes, plan)
        endless = itertools.cycle(words)
        faults = []
        for many in range(block[0], 65, 1 if block[0] < 20 else 11):
            faults.append(self.runs(block, told, [next(endless) for cell in range(many)]))
            faults.append(self.runs(block, told, [0] * many))
        return told[0], faults


class Lowered(Led):
    def test_no_rows(self):
        for lanes in (2, 3, 4):
            self.assertEqual(lowered((5, ()), lanes, ()), ((lanes, 5, ()), []))

    def test_number_rows_alone_have_none(self):
        program, entries = lowered((5, (("number", 3), ("number", 3))), 2, ())
        self.assertEqual(entries, [None, None])
        self.assertEqual(cost_of(program), 0)

    def test_each_kind_of_row_alone(self):
        rows = [(deed, 1, 0) for deed in DEEDS] + [("pick", 0, 1, 0)]
        rows += [made(place, 1, 0) for made in ON_CELLS.values() for place in (0, 1, 5)]
        for row, sure, lanes in itertools.product(rows, (0, 1, 2), (2, 3, 4)):
            block = (sure, (("load", 0), ("number", 4), row, ("store", 1, 0)))
            program, entries = self.led(block, lanes, ())
            self.assertEqual([entry[1] for entry in entries if entry is not None], [None, None, None])
            self.check(block, lanes, ())

    def test_each_kind_of_row_in_packs(self):
        for lanes in (2, 3, 4):
            loads = LOADS[:lanes] + tuple([("load", 8 + lane) for lane in range(lanes)])
            a, b = list(range(lanes)), list(range(lanes, 2 * lanes))
            made = {deed: [(deed, a[lane], b[lane]) for lane in range(lanes)] for deed in DEEDS}
            made["pick"] = [("pick", a[lane], b[lane], a[lane]) for lane in range(lanes)]
            for deed, row in ON_CELLS.items():
                made[deed] = [row(4 + lane, a[lane], b[lane]) for lane in range(lanes)]
            for deed, rows in made.items():
                pack = tuple([2 * lanes + lane for lane in range(lanes)])
                # Each word that was made is stored, alone, so that it is seen.
                ends = () if deed in ("store", "put") else tuple([("store", 20 + at, at) for at in pack])
                for sure in (0, 4 + lanes, 30):
                    block = (sure, loads + tuple(rows) + ends)
                    with self.subTest(lanes=lanes, deed=deed, sure=sure):
                        self.check(block, lanes, (tuple(a), tuple(b), pack))
                        self.check(block, lanes, (pack,))

    def test_a_tuple_that_is_a_pack(self):
        block = (16, stored(0, 1, 2, 3))
        program, faults = self.check(block, 4, ((0, 1, 2, 3), (12, 13, 14, 15)))
        self.assertNotIn("shuffle", [row[0] for row in program[2]])
        self.assertNotIn("gather", [row[0] for row in program[2]])

    def test_a_tuple_of_number_rows(self):
        rows = (("number", 5), ("number", 6), ("store", 0, 1), ("store", 1, 0), ("store", 2, 0), ("store", 3, 0))
        program, faults = self.check((4, rows), 2, ((2, 3), (4, 5)))
        self.assertEqual(cost_of(program), 2)
        self.assertEqual(run_program(program, [0] * 4)[0], [6, 5, 5, 5])
        self.check((0, rows), 4, ((2, 3, 4, 5),))

    def test_a_tuple_shuffled_out_of_one_pack(self):
        for rows in ((1, 0, 3, 2), (3, 3, 3, 3), (0, 0, 1, 2), (2, 1, 1, 0)):
            program, faults = self.check((16, stored(*rows)), 4, ((0, 1, 2, 3), (12, 13, 14, 15)))
            self.assertIn("shuffle", [row[0] for row in program[2]])
        self.check((14, stored(1, 0)), 2, ((0, 1), (12, 13)))
        self.check((15, stored(2, 0, 2)), 3, ((0, 1, 2), (12, 13, 14)))

    def test_a_tuple_shuffled_out_of_two_packs(self):
        for rows in ((0, 4, 1, 5), (7, 0, 7, 3), (4, 4, 4, 0), (6, 1, 2, 3), (7, 6, 5, 0)):
            program, faults = self.check((16, stored(*rows)), 4, ((0, 1, 2, 3), (4, 5, 6, 7), (12, 13, 14, 15)))
            self.assertIn("shuffle", [row[0] for row in program[2]])
        for rows in ((1, 2), (2, 1), (3, 0)):
            self.check((14, stored(*rows)), 2, ((0, 1), (2, 3), (12, 13)))
        self.check((15, stored(5, 0, 4)), 3, ((0, 1, 2), (3, 4, 5), (12, 13, 14)))

    def test_a_tuple_shuffled_where_the_later_pack_is_done_first(self):
        # The pack (1, 3) waits for row 2, so that (2, 4), whose first row is greater, is done ahead of it.
        rows = (("load", 0), ("plus", 0, 0), ("load", 1), ("plus", 2, 2), ("load", 2),
                ("store", 5, 4), ("store", 6, 1), ("store", 7, 3), ("store", 8, 2))
        self.check((9, rows), 2, ((1, 3), (2, 4), (5, 6), (7, 8)))

    def test_a_tuple_gathered(self):
        for rows in ((0, 0, 0, 0), (4, 1, 2, 0), (0, 4, 8, 9), (0, 0, 4, 8), (11, 7, 3, 0)):
            program, faults = self.check((16, stored(*rows)), 4, ((12, 13, 14, 15),))
            self.assertIn("gather", [row[0] for row in program[2]])
            self.check((16, stored(*rows)), 4, ((0, 1, 2, 3), (4, 5, 6, 7), (8, 9, 10, 11), (12, 13, 14, 15)))
            self.check((16, stored(*rows)), 4, ((0, 1, 2, 3), (12, 13, 14, 15)))
        self.check((14, stored(3, 7)), 2, ((12, 13),))
        self.check((15, stored(0, 3, 6)), 3, ((0, 1, 2), (3, 4, 5), (6, 7, 8), (12, 13, 14)))

    def test_a_tuple_gathered_of_number_rows_and_others(self):
        rows = (("number", 1), ("load", 0), ("load", 1), ("plus", 0, 2), ("plus", 1, 0), ("store", 2, 3), ("store", 3, 4))
        self.check((4, rows), 2, ((1, 2), (3, 4), (5, 6)))
        self.check((4, rows), 2, ((3, 4),))

    def test_a_tuple_wished_twice_is_brought_once(self):
        rows = (("load", 0), ("load", 1), ("plus", 1, 1), ("plus", 0, 0), ("times", 1, 0), ("times", 0, 1),
                ("store", 2, 4), ("store", 3, 5), ("store", 4, 2), ("store", 5, 3))
        program, faults = self.check((6, rows), 2, ((0, 1), (2, 3), (4, 5), (6, 7), (8, 9)))
        self.assertEqual([row[0] for row in program[2]].count("shuffle"), 1)
        program, faults = self.check((6, rows), 2, ((2, 3), (4, 5), (6, 7), (8, 9)))
        self.assertEqual([row[0] for row in program[2]].count("gather"), 2)

    def test_a_row_of_a_pack_named_by_a_row_alone(self):
        for row in range(4):
            block = (16, LOADS[:4] + (("store", 5, row), ("plus", row, 0), ("store", 6, 5), ("store", 9, row)))
            program, faults = self.check(block, 4, ((0, 1, 2, 3),))
            self.assertEqual([there[0] for there in program[2]].count("lane"), 1 if row == 0 else 2)

    def test_a_row_drawn_out_for_a_row_alone_and_for_a_gather(self):
        rows = (("load", 0), ("load", 1), ("number", 4), ("store", 5, 1), ("store", 6, 2), ("plus", 1, 1), ("store", 7, 5))
        program, faults = self.check((9, rows), 2, ((0, 1), (3, 4)))
        self.assertEqual([row[0] for row in program[2]].count("lane"), 1)

    def test_names_at_the_same_spot_and_unlike_tuples_with_the_same_first_row(self):
        rows = LOADS[:4] + (("minus", 0, 0), ("minus", 1, 2), ("store", 5, 4), ("store", 6, 5))
        self.check((8, rows), 2, ((0, 1), (2, 3), (4, 5), (6, 7)))
        rows = LOADS[:4] + (("pick", 0, 0, 0), ("pick", 1, 2, 3), ("store", 5, 4), ("store", 6, 5))
        self.check((8, rows), 2, ((0, 1), (2, 3), (4, 5), (6, 7)))

    def test_places_up_to_the_last(self):
        rows = tuple([("load", 60 + lane) for lane in range(4)]) + tuple([("store", 60 + lane, 3 - lane) for lane in range(4)])
        for sure in (0, 61, 64):
            self.check((sure, rows), 4, ((0, 1, 2, 3), (4, 5, 6, 7)))

    def test_forty_rows(self):
        rows = LOADS[:10] + tuple([("plus", at, 9 - at % 10) for at in range(20)])
        rows += tuple([("store", 20 + at, 29 - at) for at in range(10)])
        self.assertEqual(len(rows), 40)
        for sure in (0, 30):
            self.check((sure, rows), 2, tuple([(at, at + 1) for at in range(0, 40, 2)]))
            self.check((sure, rows), 2, ())
            # All sums are gathered, of the most rows that a program has.
            packs = tuple([(at, at + 9) for at in (10, 11, 12, 13, 14, 15, 16, 17, 18)])
            if is_valid((sure, rows), 2, packs):
                self.check((sure, rows), 2, packs)


class Faults(Led):
    """The fault's entry, at each kind of row that faults and in each lane."""

    def test_on_cells_in_each_lane(self):
        numbers = (("number", 1), ("number", 7))
        for lanes, (deed, made) in itertools.product((2, 3, 4), ON_CELLS.items()):
            rows = tuple([made(3 + lane, 0, 1) for lane in range(lanes)])
            pack = tuple([3 + lane for lane in range(lanes)])
            block = (0, numbers + (("store", 0, 1),) + rows + (("store", 1, 0),))
            told = self.led(block, lanes, (pack,))
            for many in range(9):
                fault = self.runs(block, told, [5] * many)
                if many == 0:
                    self.assertEqual(fault, (2, "beyond"))
                elif many < 3:
                    self.assertEqual(fault, (3, "beyond"))
                elif many < 3 + lanes:
                    self.assertEqual(fault, (many, "beyond"))
                    wide = run_program(told[0], [5] * many)[1]
                    self.assertEqual(wide[1:], (many - 3, "beyond"))
                else:
                    self.assertIsNone(fault)

    def test_over_in_each_lane(self):
        for lanes in (2, 3, 4):
            loads = LOADS[:lanes]
            overs = tuple([("over", lane, lane) for lane in range(lanes)])
            stores = tuple([("store", lane, lanes + lane) for lane in range(lanes)])
            packs = tuple([tuple(range(first, first + lanes)) for first in (0, lanes, 2 * lanes)])
            block = (lanes, loads + overs + stores)
            told = self.led(block, lanes, packs)
            for lane in range(lanes):
                cells = [3] * lanes
                cells[lane] = 0
                self.assertEqual(self.runs(block, told, cells), (lanes + lane, "nought"))
                self.assertEqual(run_program(told[0], cells)[1][1:], (lane, "nought"))
                cells[-1] = 0
                self.assertEqual(self.runs(block, told, cells), (lanes + lane, "nought"))
            self.assertIsNone(self.runs(block, told, [3] * lanes))

    def test_take_and_put_that_touch_no_cell(self):
        for c in itertools.product((0, 1), repeat=3):
            numbers = tuple([("number", word) for word in c])
            takes = tuple([("take", 4 + lane, lane, lane) for lane in range(3)])
            puts = tuple([("put", 4 + lane, 3 + lane, lane) for lane in range(3)])
            block = (0, numbers + takes + puts)
            told = self.led(block, 3, ((3, 4, 5), (6, 7, 8)))
            for many in range(9):
                self.runs(block, told, [8] * many)

    def test_rows_alone_between_packs(self):
        rows = (("load", 0), ("load", 1), ("over", 0, 1), ("over", 1, 0), ("load", 9), ("store", 2, 2), ("store", 3, 3))
        packs = ((0, 1), (2, 3), (5, 6))
        for sure in (0, 1, 4):
            block = (sure, rows)
            self.assertIs(is_valid(block, 2, packs), True)
            told = self.led(block, 2, packs)
            seen = set()
            for many, cells in itertools.product(range(sure, 12), itertools.product((0, 1, 2), repeat=2)):
                fault = self.runs(block, told, (list(cells) + [5] * 10)[:many])
                seen.add(None if fault is None else fault[0])
            self.assertLessEqual({2, 3, 4, None}, seen)

    def test_what_moved_ahead_of_a_fault_writes_nothing(self):
        # The pack (0, 3) draws row 3 ahead of the over, which may fault; the stores stay behind it.
        rows = (("load", 0), ("load", 2), ("over", 0, 1), ("load", 1), ("store", 4, 0), ("store", 5, 3))
        told = self.led((3, rows), 2, ((0, 3), (4, 5)))
        self.assertEqual(self.runs((3, rows), told, [5, 6, 0]), (2, "nought"))
        self.assertEqual(run_program(told[0], [5, 6, 0])[0], [5, 6, 0])
        self.assertEqual(self.runs((3, rows), told, [5, 6, 1, 9]), (4, "beyond"))
        self.assertEqual(self.runs((3, rows), told, [5, 6, 1, 9, 9]), (5, "beyond"))
        self.assertIsNone(self.runs((3, rows), told, [5, 6, 1, 9, 9, 9]))


class ByDice(Led):
    def some_cells(self, dice, block, told):
        for turn in range(4):
            self.runs(block, told, any_cells(dice, block[0], 10))

    def test_all_plans_of_small_blocks(self):
        dice = random.Random(12)
        seen = 0
        for turn in range(700):
            block = any_block(dice, 7)
            lanes = dice.choice((2, 2, 3, 4))
            for plan in all_plans(block, lanes):
                if is_valid(block, lanes, plan):
                    self.some_cells(dice, block, self.led(block, lanes, plan))
                    seen += bool(plan)
        self.assertGreater(seen, 100)

    def test_blocks_of_many_packs(self):
        dice = random.Random(13)
        kinds = set()
        for turn in range(300):
            lanes = dice.choice((2, 3, 4))
            turns = dice.randint(1, 40 // lanes)
            block = lane_block(dice, lanes, turns)
            packs = [tuple(range(first, first + lanes)) for first in range(0, lanes * turns, lanes)]
            plan = tuple([pack for pack in packs if block[1][pack[0]][0] != "number" and dice.random() < 0.8])
            if is_valid(block, lanes, plan):
                told = self.led(block, lanes, plan)
                self.some_cells(dice, block, told)
                kinds |= {row[0] for row in told[0][2]}
        self.assertLessEqual({"wide", "gather", "shuffle", "lane", "over", "number"}, kinds)


class Refused(unittest.TestCase):
    def test_no_block(self):
        for thing in NO_BLOCKS:
            with self.assertRaises(NoBlock):
                lowered(thing, 2, ())

    def test_no_lanes(self):
        for lanes in NO_LANES:
            with self.assertRaises(NoLanes):
                lowered(CROSSED, lanes, ())

    def test_no_plan(self):
        wrong = [[], [(0, 1)], ([1, 3],), ((3, 1),), ((1, 3), (1, 3)), ((1, 2),), ((1, 3, 3),), ((True, 3),), (1, 3)]
        for thing in wrong + [thing for thing in ODD if not is_empty_tuple(thing)]:
            with self.assertRaises(NoPlan):
                lowered(CROSSED, 2, thing)

    def test_not_valid(self):
        plan = ((1, 3),)
        with self.assertRaises(NotValid) as caught:
            lowered(CROSSED, 2, plan)
        self.assertIs(caught.exception.packs, plan)

    def test_which_comes_first(self):
        for lanes, plan in itertools.product((2, 5, None), ((), None, ((1, 3),))):
            with self.assertRaises(NoBlock):
                lowered((65, CROSSED[1]), lanes, plan)
        for lanes, plan in itertools.product((1, 5, True), ((), None, ((1, 3),))):
            with self.assertRaises(NoLanes):
                lowered(CROSSED, lanes, plan)
        for lanes, plan in ((2, ((1, 3), (1, 3))), (2, [(1, 3)]), (3, ((1, 3),))):
            with self.assertRaises(NoPlan):
                lowered(CROSSED, lanes, plan)


class NothingIsKept(unittest.TestCase):
    BLOCK = (4, (("load", 0), ("load", 1), ("store", 2, 1), ("store", 3, 0), ("number", 3)))

    def test_new_lists_each_time(self):
        plan = ((0, 1), (2, 3))
        first, second = lowered(self.BLOCK, 2, plan), lowered(self.BLOCK, 2, plan)
        self.assertEqual(first, second)
        self.assertIsNot(first[1], second[1])
        first[1].clear()
        self.assertEqual(lowered(self.BLOCK, 2, plan), second)

    def test_what_is_handed_in_stays(self):
        block, plan = copy.deepcopy(self.BLOCK), ((0, 1), (2, 3))
        lowered(block, 2, plan)
        self.assertEqual((block, plan), (self.BLOCK, ((0, 1), (2, 3))))
        thing = [[1, 3]]
        with self.assertRaises(NoPlan):
            lowered(CROSSED, 2, thing)
        self.assertEqual(thing, [[1, 3]])

    def test_equal_things_give_equal_answers(self):
        again = (4, tuple([tuple(list(row)) for row in self.BLOCK[1]]))
        self.assertEqual(lowered(again, 2, ((0, 1),)), lowered(self.BLOCK, 2, ((0, 1),)))


if __name__ == "__main__":
    unittest.main()

"""Promises [18], [19] and [20] and the interface's part loops, with [1] as far as it speaks of it."""

import copy
import itertools
import random
import unittest

from lanepacks.blocks import is_block
from lanepacks.errors import NoCells, NoLanes, NoLoop, TooLong
from lanepacks.loops import is_loop, reach, run_loop, turn_plan, unrolled
from lanepacks.plans import cost, is_plan, is_valid
from lanepacks.running import run, values
from lanepacks.words import DEEDS
from things import NO_LANES, ODD, any_cells

# Cells are doubled one by one.
DOUBLED = (0, 4, (("load", (0, 1)), ("plus", 0, 0), ("store", (8, 1), 1)))

# Cells are added up; the sum so far goes on to the next turn.
SUMMED = (4, 4, (("last", 2, 5), ("load", (0, 1)), ("plus", 0, 1), ("store", (8, 0), 2)))

# For each deed on cells: a row of a stride, that names two rows at most.
STRIDES = {
    "load": lambda stride, a, b: ("load", stride),
    "take": lambda stride, a, b: ("take", stride, a, b),
    "store": lambda stride, a, b: ("store", stride, a),
    "put": lambda stride, a, b: ("put", stride, a, b),
}


class IsLoop(unittest.TestCase):
    def yes(self, thing):
        self.assertIs(is_loop(thing), True, thing)

    def no(self, thing):
        self.assertIs(is_loop(thing), False)

    def test_ordinary(self):
        self.yes(DOUBLED)
        self.yes(SUMMED)

    def test_each_kind_of_row(self):
        number = ("number", 1)
        for deed in DEEDS:
            self.yes((0, 2, (number, (deed, 0, 0))))
            self.no((0, 2, (number, (deed, 0))))
            self.no((0, 2, (number, (deed, 0, 1))))
        self.yes((0, 2, (number, ("pick", 0, 0, 0))))
        self.no((0, 2, (number, ("pick", 0, 0))))
        for word in (0, 999):
            self.yes((0, 2, (("number", word),)))
            self.yes((0, 2, (("last", 0, word),)))
        for word in (-1, 1000, True, None):
            self.no((0, 2, (("number", word),)))
            self.no((0, 2, (("last", 0, word),)))
        for made in STRIDES.values():
            self.yes((0, 2, (number, made((3, 1), 0, 0))))
            # A place as of a block is none here.
            self.no((0, 2, (number, made(3, 0, 0))))
            self.no((0, 2, (number, made((3, 1), 0, 0) + (0,))))
            self.no((0, 2, (number, made((3, 1), 0, 0)[:1])))
        self.no((0, 2, (("number", (1, 1)),)))
        self.no((0, 2, (number, ("loop", 0, 0))))

    def test_sure(self):
        for sure in (0, 1, 64):
            self.yes((sure,) + DOUBLED[1:])
        for sure in (-1, 65, True, None, "0"):
            self.no((sure,) + DOUBLED[1:])

    def test_turns(self):
        for turns in range(1, 9):
            self.yes((0, turns, DOUBLED[2]))
        for turns in (0, 9, 10, -1, True, None, "4"):
            self.no((0, turns, DOUBLED[2]))

    def test_one_to_eight_rows(self):
        self.no((0, 1, ()))
        for many in range(1, 9):
            self.yes((0, 1, (("number", 1),) * many))
        for many in (9, 10, 40):
            self.no((0, 1, (("number", 1),) * many))

    def test_places_at_0_and_63_and_just_beyond(self):
        number = ("number", 1)
        for made, turns, step in itertools.product(STRIDES.values(), range(1, 9), range(-9, 10)):
            far = step * (turns - 1)
            for base in (0, 1, 62, 63, -far, -far - 1, 63 - far, 64 - far):
                good = 0 <= base <= 63 and 0 <= base + far <= 63
                self.assertIs(is_loop((0, turns, (number, made((base, step), 0, 0)))), good)
        for made in STRIDES.values():
            for base in (-1, 64, 100):
                self.no((0, 1, (number, made((base, 0), 0, 0))))
            # The base counts, too, where its place would be right in the last turn.
            self.no((0, 2, (number, made((64, -1), 0, 0))))
            self.no((0, 2, (number, made((-1, 1), 0, 0))))

    def test_steps_from_minus_9_to_9_and_beyond(self):
        for made, step in itertools.product(STRIDES.values(), range(-12, 13)):
            rows = (("number", 1), made((30, step), 0, 0))
            self.assertIs(is_loop((0, 1, rows)), -9 <= step <= 9)
            self.assertIs(is_loop((0, 2, rows)), -9 <= step <= 9)

    def test_a_last_of_any_row_that_makes_a_word(self):
        number = ("number", 1)
        self.yes((0, 2, (number, ("last", 0, 5))))
        # Of a row behind it, of itself, of a last.
        self.yes((0, 2, (("last", 1, 5), number)))
        self.yes((0, 2, (("last", 0, 5),)))
        self.yes((0, 2, (("last", 1, 5), ("last", 0, 6))))
        self.yes((0, 2, (("last", 1, 5), ("load", (0, 0)))))
        self.yes((0, 2, (("last", 1, 5), ("take", (0, 0), 0, 0))))
        # Of a row that makes no word, ahead or behind.
        self.no((0, 2, (number, ("store", (0, 0), 0), ("last", 1, 5))))
        self.no((0, 2, (number, ("last", 2, 5), ("store", (0, 0), 0))))
        self.no((0, 2, (number, ("put", (0, 0), 0, 0), ("last", 1, 5))))
        self.no((0, 2, (number, ("last", 2, 5), ("put", (0, 0), 0, 1))))

    def test_a_last_of_a_row_that_is_not_there(self):
        for row in (2, 3, 8, -1, -2, None, True, "0", (0,)):
            self.no((0, 2, (("number", 1), ("last", row, 5))))
        self.no((0, 2, (("last", False, 5),)))
        for row in (("last",), ("last", 0), ("last", 0, 5, 5)):
            self.no((0, 2, (("number", 1), row)))

    def test_a_last_is_named_like_other_rows(self):
        self.yes((0, 2, (("last", 0, 5), ("plus", 0, 0))))
        self.yes((0, 2, (("last", 0, 5), ("store", (0, 0), 0))))
        # But not by one ahead of it.
        self.no((0, 2, (("plus", 1, 1), ("last", 0, 5))))

    def test_lists_in_the_stead_of_tuples(self):
        load = ("load", (0, 1))
        self.yes((0, 1, (load,)))
        self.no([0, 1, (load,)])
        self.no((0, 1, [load]))
        self.no((0, 1, (["load", (0, 1)],)))
        self.no((0, 1, (("load", [0, 1]),)))
        self.no((0, 1, (["last", 0, 5],)))

    def test_truths_in_the_stead_of_numbers(self):
        self.no((False, 1, (("load", (0, 1)),)))
        self.no((0, True, (("load", (0, 1)),)))
        self.no((0, 1, (("load", (False, 1)),)))
        self.no((0, 1, (("load", (0, True)),)))
        self.no((0, 1, (("number", True),)))
        self.no((0, 1, (("number", 1), ("plus", False, 0))))

    def test_other_kinds(self):
        number = ("number", 1)
        for thing in ODD:
            self.no(thing)
            self.no((thing, 1, (number,)))
            self.no((0, thing, (number,)))
            self.no((0, 1, thing))
            self.no((0, 1, (thing,)))
            self.no((0, 1, (number, thing)))
            self.no((0, 1, (number, ("load", thing))))
            self.no((0, 1, (number, ("load", (thing, 1)))))
            self.no((0, 1, (number, ("load", (0, thing)))))
            self.no((0, 1, (number, ("last", thing, 1))))
            self.no((0, 1, (number, ("last", 0, thing))))
            self.no((0, 1, (number, (thing, 0, 0))))
            self.no((0, 1, (number, ("plus", 0, thing))))
        for stride in ((), (0,), (0, 1, 1), 0):
            self.no((0, 1, (("load", stride),)))
        self.no((0, 1))
        self.no((0, 1, (number,), ()))


def any_loop(dice, places=12):
    """A loop, by dice that always fall the same."""
    turns = dice.randint(1, 8)
    many = dice.randint(1, 8)
    rows, able = [], []
    for at in range(many):
        deeds = ["load", "number", "last"] + (["plus", "over", "pick", "take", "store", "put", "minus"] if able else [])
        deed = dice.choice(deeds)
        a, b, c = [dice.choice(able) for spot in range(3)] if able else (None, None, None)
        if deed in STRIDES:
            step = dice.choice((-1, 0, 1, 1, 2))
            base = dice.randint(max(0, -step * (turns - 1)), places)
            rows.append(STRIDES[deed]((base, step), a, b))
        elif deed == "number":
            rows.append(("number", dice.randint(0, 3)))
        elif deed == "last":
            rows.append(("last", dice.randrange(many), dice.randint(0, 9)))
        else:
            rows.append((deed, a, b, c)[:4 if deed == "pick" else 3])
        if deed not in ("store", "put"):
            able.append(at)
    # A last of a row that makes no word is of itself in its stead.
    rows = [("last", at, row[2]) if row[0] == "last" and row[1] not in able else row for at, row in enumerate(rows)]
    return (dice.randint(0, 6), turns, tuple(rows))


def run_by_words(loop, cells):
    """How a loop runs by the words of [18]: each turn as a block, with a number row for each last."""
    sure, turns, rows = loop
    cells, before = list(cells), None
    for turn in range(turns):
        laid = []
        for row in rows:
            if row[0] == "last":
                laid.append(("number", row[2] if turn == 0 else before[row[1]]))
            elif row[0] in STRIDES:
                laid.append((row[0], row[1][0] + turn * row[1][1]) + row[2:])
            else:
                laid.append(row)
        before = values((0, tuple(laid)), cells)
        cells, fault = run((0, tuple(laid)), cells)
        if fault is not None:
            return (cells, (turn,) + fault)
    return (cells, None)


class RunLoop(unittest.TestCase):
    def check(self, loop, cells, then, fault):
        told = run_loop(loop, cells)
        self.assertIs(type(told), tuple)
        self.assertIs(type(told[0]), list)
        self.assertEqual(told, (then, fault))

    def test_ordinary(self):
        self.check(DOUBLED, [1, 2, 3, 4] + [0] * 8, [1, 2, 3, 4, 0, 0, 0, 0, 2, 4, 6, 8], None)
        self.check(SUMMED, [1, 2, 3, 4] + [0] * 5, [1, 2, 3, 4, 0, 0, 0, 0, 15], None)

    def test_turn_behind_turn(self):
        # What is written in a turn is read in the next one.
        loop = (0, 5, (("load", (0, 1)), ("number", 1), ("plus", 0, 1), ("store", (1, 1), 2)))
        self.check(loop, [7, 0, 0, 0, 0, 0], [7, 8, 9, 10, 11, 12], None)
        self.check((0, 3, (("load", (2, -1)), ("store", (3, 3), 0))), [5, 6, 7] + [0] * 7, [5, 6, 7, 7, 0, 0, 6, 0, 0, 5], None)

    def test_last(self):
        loop = (0, 3, (("load", (0, 1)), ("last", 0, 9), ("store", (4, 1), 1)))
        self.check(loop, [1, 2, 3, 0, 0, 0, 0], [1, 2, 3, 0, 9, 1, 2], None)
        # Of a row behind it.
        loop = (0, 3, (("last", 1, 9), ("load", (0, 1)), ("store", (4, 1), 0)))
        self.check(loop, [1, 2, 3, 0, 0, 0, 0], [1, 2, 3, 0, 9, 1, 2], None)
        # Of itself: the word that it begins with goes on.
        loop = (0, 3, (("last", 0, 9), ("store", (0, 1), 0)))
        self.check(loop, [0, 0, 0], [9, 9, 9], None)
        # Of a last, which is of a load: two turns behind.
        for rows in ((("load", (0, 1)), ("last", 0, 8), ("last", 1, 9), ("store", (5, 1), 2)),):
            self.check((0, 4, rows), [1, 2, 3, 4, 0, 0, 0, 0, 0], [1, 2, 3, 4, 0, 9, 8, 1, 2], None)
        # Two of one another are exchanged in each turn.
        loop = (0, 3, (("last", 1, 5), ("last", 0, 6), ("store", (0, 2), 0), ("store", (1, 2), 1)))
        self.check(loop, [0] * 6, [5, 6, 6, 5, 5, 6], None)

    def test_one_turn(self):
        self.check((0, 1, DOUBLED[2]), [3] + [0] * 8, [3] + [0] * 7 + [6], None)
        self.check((0, 1, SUMMED[2]), [3] + [0] * 8, [3] + [0] * 7 + [8], None)

    def test_faults(self):
        for many in range(12):
            cells = [5] * many
            then = cells[:8] + [10] * (many - 8)
            if many == 0:
                fault = (0, 0, "beyond")
            elif many < 9:
                fault = (0, 2, "beyond")
            else:
                fault = (many - 8, 2, "beyond")
            self.check(DOUBLED, cells, then, fault)
        over = (0, 3, (("load", (0, 1)), ("over", 0, 0), ("store", (0, 1), 1)))
        self.check(over, [5, 6, 0], [1, 1, 0], (2, 1, "nought"))
        self.check(over, [5, 0, 6], [1, 0, 6], (1, 1, "nought"))
        self.check(over, [5, 6], [1, 1], (2, 0, "beyond"))
        self.assertIs(type(run_loop(over, [5, 6])[1]), tuple)

    def test_places_that_fall(self):
        loop = (0, 4, (("load", (3, -1)), ("store", (4, 1), 0)))
        self.check(loop, [1, 2, 3, 4, 0, 0, 0, 0], [1, 2, 3, 4, 4, 3, 2, 1], None)

    def test_against_turns_as_blocks(self):
        dice = random.Random(18)
        seen = set()
        for turn in range(1500):
            loop = any_loop(dice)
            self.assertIs(is_loop(loop), True, loop)
            for again in range(2):
                cells = any_cells(dice, loop[0], 30)
                told = run_loop(loop, cells)
                self.assertEqual(told, run_by_words(loop, cells), (loop, cells))
                seen.add(told[1] and (told[1][0] > 0, told[1][2]))
        self.assertLessEqual({None, (True, "beyond"), (True, "nought"), (False, "beyond")}, seen)


class Unrolled(unittest.TestCase):
    def check(self, loop, rows, numbers):
        told = unrolled(loop)
        self.assertIs(type(told), tuple)
        self.assertEqual(told, ((loop[0], tuple(rows)), numbers))
        self.assertIs(is_block(told[0]), True)

    def test_row_by_row(self):
        self.check((3, 2, DOUBLED[2]), [
            ("load", 0), ("plus", 0, 0), ("store", 8, 1), ("load", 1), ("plus", 3, 3), ("store", 9, 4),
        ], [[0, 1, 2], [3, 4, 5]])

    def test_the_number_rows_of_lasts_ahead_of_all(self):
        self.check((4, 3, SUMMED[2]), [
            ("number", 5), ("load", 0), ("plus", 0, 1), ("store", 8, 2), ("load", 1), ("plus", 2, 4), ("store", 8, 5),
            ("load", 2), ("plus", 5, 7), ("store", 8, 8),
        ], [[None, 1, 2, 3], [None, 4, 5, 6], [None, 7, 8, 9]])

    def test_several_in_their_order(self):
        rows = (("load", (0, 1)), ("last", 0, 8), ("number", 3), ("last", 2, 9), ("minus", 1, 3))
        self.check((0, 2, rows), [
            ("number", 8), ("number", 9), ("load", 0), ("number", 3), ("minus", 0, 1),
            ("load", 1), ("number", 3), ("minus", 2, 3),
        ], [[2, None, 3, None, 4], [5, None, 6, None, 7]])

    def test_one_that_is_not_named_has_its_number_row_too(self):
        self.check((0, 2, (("number", 1), ("last", 0, 7))), [("number", 7), ("number", 1), ("number", 1)], [[1, None], [2, None]])
        self.check((0, 1, (("last", 0, 7),)), [("number", 7)], [[None]])
        self.check((0, 8, (("last", 0, 7), ("last", 0, 7))), [("number", 7), ("number", 7)], [[None, None]] * 8)

    def test_a_last_of_itself(self):
        rows = (("last", 0, 7), ("store", (0, 1), 0))
        self.check((0, 3, rows), [("number", 7), ("store", 0, 0), ("store", 1, 0), ("store", 2, 0)],
                   [[None, 1], [None, 2], [None, 3]])

    def test_a_last_of_a_last(self):
        rows = (("load", (0, 1)), ("last", 0, 8), ("last", 1, 9), ("store", (5, 1), 2))
        self.check((0, 4, rows), [
            ("number", 8), ("number", 9), ("load", 0), ("store", 5, 1), ("load", 1), ("store", 6, 0),
            ("load", 2), ("store", 7, 2), ("load", 3), ("store", 8, 4),
        ], [[2, None, None, 3], [4, None, None, 5], [6, None, None, 7], [8, None, None, 9]])
        # Of one behind it, and of one another.
        rows = (("last", 1, 8), ("last", 2, 9), ("load", (0, 1)), ("store", (5, 1), 0))
        self.check((0, 3, rows), [
            ("number", 8), ("number", 9), ("load", 0), ("store", 5, 0), ("load", 1), ("store", 6, 1),
            ("load", 2), ("store", 7, 2),
        ], [[None, None, 2, 3], [None, None, 4, 5], [None, None, 6, 7]])
        rows = (("last", 1, 5), ("last", 0, 6), ("store", (0, 1), 0))
        self.check((0, 3, rows), [("number", 5), ("number", 6), ("store", 0, 0), ("store", 1, 1), ("store", 2, 0)],
                   [[None, None, 2], [None, None, 3], [None, None, 4]])

    def test_each_kind_of_row(self):
        rows = (("number", 2), ("last", 3, 4), ("take", (9, -3), 0, 1), ("pick", 1, 2, 0), ("put", (1, 2), 3, 1),
                ("over", 3, 0))
        self.check((7, 2, rows), [
            ("number", 4), ("number", 2), ("take", 9, 1, 0), ("pick", 0, 2, 1), ("put", 1, 3, 0), ("over", 3, 1),
            ("number", 2), ("take", 6, 6, 3), ("pick", 3, 7, 6), ("put", 3, 8, 3), ("over", 8, 6),
        ], [[1, None, 2, 3, 4, 5], [6, None, 7, 8, 9, 10]])

    def test_forty_rows_and_forty_one(self):
        number = ("number", 1)
        for turns, many in ((8, 5), (5, 8), (4, 8), (8, 1), (7, 5)):
            self.assertEqual(len(unrolled((0, turns, (number,) * many))[0][1]), turns * many)
        for turns, many in ((8, 6), (6, 7), (8, 8), (7, 6), (6, 8)):
            self.assertGreater(turns * many, 40)
            with self.assertRaises(TooLong):
                unrolled((0, turns, (number,) * many))
        # The number rows of lasts count: 1 and 8 times 5 are 41.
        with self.assertRaises(TooLong):
            unrolled((0, 8, (number,) * 5 + (("last", 0, 1),)))
        self.assertEqual(len(unrolled((0, 8, (number,) * 4 + (("last", 0, 1),) * 4))[0][1]), 36)
        self.assertEqual(len(unrolled((0, 5, (number,) * 7 + (("last", 0, 1),)))[0][1]), 36)
        self.assertEqual(len(unrolled((0, 6, (number,) * 6 + (("last", 0, 1),) * 2))[0][1]), 38)
        with self.assertRaises(TooLong):
            unrolled((0, 8, (number,) * 5 + (("last", 0, 1),) * 3))
        self.assertEqual(len(unrolled((0, 8, (("last", 0, 1),) * 8))[0][1]), 8)

    def test_it_does_the_same(self):
        dice = random.Random(19)
        tried = 0
        for turn in range(1200):
            loop = any_loop(dice)
            try:
                block, numbers = unrolled(loop)
            except TooLong:
                lasts = sum(row[0] == "last" for row in loop[2])
                self.assertGreater(lasts + loop[1] * (len(loop[2]) - lasts), 40)
                continue
            tried += 1
            self.assertIs(is_block(block), True)
            self.assertEqual(block[0], loop[0])
            for again in range(2):
                cells = any_cells(dice, loop[0], 30)
                then, fault = run_loop(loop, cells)
                meant = None if fault is None else (numbers[fault[0]][fault[1]], fault[2])
                self.assertEqual(run(block, cells), (then, meant), (loop, cells))
        self.assertGreater(tried, 500)

    def test_new_lists_each_time(self):
        first, second = unrolled(SUMMED), unrolled(SUMMED)
        self.assertIs(type(first[1]), list)
        self.assertEqual({type(turn) for turn in first[1]}, {list})
        self.assertIsNot(first[1], second[1])
        first[1][0].clear()
        first[1].pop()
        self.assertEqual(unrolled(SUMMED), second)
        self.assertEqual(len({id(turn) for turn in second[1]}), 4)


class TurnPlan(unittest.TestCase):
    def check(self, loop, lanes, plan):
        told = turn_plan(loop, lanes=lanes)
        self.assertIs(type(told), tuple)
        self.assertEqual(told, plan)
        block = unrolled(loop)[0]
        self.assertIs(is_plan(block, lanes, told), True)
        self.assertIs(is_valid(block, lanes, told), True)

    def test_one_full_group(self):
        self.check((64, 4, DOUBLED[2]), 4, ((0, 3, 6, 9), (1, 4, 7, 10), (2, 5, 8, 11)))
        self.check((64, 3, DOUBLED[2]), 3, ((0, 3, 6), (1, 4, 7), (2, 5, 8)))
        self.check((64, 2, DOUBLED[2]), 2, ((0, 3), (1, 4), (2, 5)))

    def test_several_groups(self):
        self.check((64, 4, DOUBLED[2]), 2, ((0, 3), (1, 4), (2, 5), (6, 9), (7, 10), (8, 11)))
        loads = (64, 8, (("load", (0, 1)),))
        self.check(loads, 4, ((0, 1, 2, 3), (4, 5, 6, 7)))
        self.check(loads, 2, ((0, 1), (2, 3), (4, 5), (6, 7)))

    def test_a_rest_that_is_left(self):
        loads = (64, 8, (("load", (0, 1)),))
        self.check(loads, 3, ((0, 1, 2), (3, 4, 5)))
        for turns in range(1, 9):
            for lanes in (2, 3, 4):
                groups = [tuple(range(at, at + lanes)) for at in range(0, turns - lanes + 1, lanes)]
                self.check((64, turns, loads[2]), lanes, tuple(groups))
                self.assertEqual(len(groups), turns // lanes)

    def test_a_row_whose_turns_are_no_pack(self):
        # Places that stay, fall, or leap are none; sums of them are.
        for step in (0, -1, 2, 3, 9):
            loop = (64, 2, (("load", (20, step)), ("plus", 0, 0)))
            self.check(loop, 2, ((1, 3),))
        self.check((64, 2, (("load", (20, 1)), ("plus", 0, 0))), 2, ((0, 2), (1, 3)))
        # Each sum names that of the turn ahead.
        self.check((64, 2, SUMMED[2]), 2, ((1, 4),))
        # Numbers and lasts are none.
        self.check((64, 2, (("number", 1), ("number", 2))), 2, ())
        self.check((64, 4, (("last", 0, 1), ("plus", 0, 0))), 4, ((1, 2, 3, 4),))

    def test_a_sum_that_names_that_of_two_turns_ahead(self):
        rows = (("last", 1, 3), ("last", 2, 4), ("plus", 0, 0))
        self.check((64, 4, rows), 2, ((2, 3), (4, 5)))
        self.check((64, 4, rows), 3, ())
        self.check((64, 4, rows), 4, ())

    def test_a_pack_that_would_make_the_plan_not_valid(self):
        # A load of what was stored in the turn ahead.
        loop = (64, 2, (("load", (0, 1)), ("store", (1, 1), 0)))
        self.check(loop, 2, ())
        # The loads go ahead, and the stores then must not: the store of turn 0 is ahead of the load of turn 1.
        loop = (64, 2, (("load", (1, 1)), ("store", (0, 1), 0)))
        self.check(loop, 2, ((0, 2), (1, 3)))
        # Both may fault, so that the load and the store take turns.
        loop = (0, 2, (("load", (0, 1)), ("store", (8, 1), 0)))
        self.check(loop, 2, ())
        # The first that is taken keeps the second from being so, not the other way round.
        rows = (("last", 1, 5), ("plus", 0, 0), ("load", (0, 1)), ("store", (1, 1), 2))
        self.check((64, 2, rows), 2, ())

    def test_by_the_words_of_the_document(self):
        dice = random.Random(20)
        seen = {"taken": 0, "no pack": 0, "not valid": 0}
        for turn in range(400):
            loop = any_loop(dice)
            lanes = dice.choice((2, 3, 4))
            try:
                block, numbers = unrolled(loop)
            except TooLong:
                with self.assertRaises(TooLong):
                    turn_plan(loop, lanes=lanes)
                continue
            plan = []
            for group in range(loop[1] // lanes):
                for at, row in enumerate(loop[2]):
                    if row[0] in ("number", "last"):
                        continue
                    pack = tuple([numbers[group * lanes + lane][at] for lane in range(lanes)])
                    if not is_plan(block, lanes, (pack,)):
                        seen["no pack"] += 1
                    elif not is_valid(block, lanes, tuple(sorted(plan + [pack]))):
                        seen["not valid"] += 1
                    else:
                        seen["taken"] += 1
                        plan.append(pack)
            self.check(loop, lanes, tuple(plan))
        self.assertGreater(min(seen.values()), 20)

    def test_lanes_are_four_by_default_and_handed_in_by_name(self):
        loop = (64, 4, DOUBLED[2])
        self.assertEqual(turn_plan(loop), ((0, 3, 6, 9), (1, 4, 7, 10), (2, 5, 8, 11)))
        self.assertEqual(cost(unrolled(loop)[0], 4, turn_plan(loop)), 3)
        with self.assertRaises(TypeError):
            turn_plan(loop, 4)


class Reach(unittest.TestCase):
    def check(self, turns, rows, many):
        told = reach((64, turns, (("number", 1),) + rows))
        self.assertEqual(told, many)
        self.assertIn(type(told), (int, type(None)))

    def test_none(self):
        self.check(8, (), None)
        self.check(8, (("plus", 0, 0),), None)
        self.check(8, (("load", (0, 0)), ("load", (0, 0))), None)
        self.check(8, (("take", (0, 0), 0, 0), ("load", (0, 1))), None)
        self.check(8, (("store", (0, 1), 0),), None)
        self.check(8, (("load", (0, 1)), ("store", (0, 1), 0)), None)
        self.check(4, (("load", (0, 1)), ("store", (8, 1), 0)), None)
        self.check(8, (("load", (0, 2)), ("store", (1, 2), 0)), None)
        self.assertIsNone(reach((0, 8, (("last", 0, 3),))))

    def test_one_turn(self):
        self.check(1, (("store", (0, 0), 0), ("load", (0, 0))), None)
        self.check(2, (("store", (0, 0), 0), ("load", (0, 0))), 1)

    def test_the_same_row(self):
        self.check(8, (("store", (5, 0), 0),), 1)
        self.check(8, (("put", (5, 0), 0, 0),), 1)
        self.check(8, (("load", (5, 0)),), None)

    def test_how_many_turns(self):
        for many in range(1, 9):
            for turns in range(1, 9):
                # Written in a turn, read so many turns later, and the other way round.
                reached = many if many < turns else None
                self.check(turns, (("load", (0, 1)), ("store", (many, 1), 0)), reached)
                self.check(turns, (("load", (many, 1)), ("store", (0, 1), 0)), reached)
                self.check(turns, (("store", (0, 1), 0), ("store", (many, 1), 0)), reached)
                self.check(turns, (("put", (20, -1), 0, 0), ("take", (20 - many, -1), 0, 0)), reached)
                self.check(turns, (("load", (0, 1)), ("load", (many, 1))), None)

    def test_the_least(self):
        self.check(8, (("load", (0, 1)), ("store", (5, 1), 0), ("load", (3, 1))), 2)
        self.check(8, (("load", (0, 1)), ("store", (5, 1), 0), ("load", (9, 1))), 4)
        # Places that go the one way and the other.
        self.check(8, (("load", (0, 1)), ("store", (7, -1), 0)), 1)
        self.check(8, (("load", (0, 1)), ("store", (8, -1), 0)), 2)
        self.check(3, (("load", (0, 1)), ("store", (6, -1), 0)), None)

    def test_put_and_take_whatever_c_is(self):
        rows = (("number", 0), ("put", (5, 0), 0, 1))
        self.check(3, rows, 1)

    def test_against_all_pairs_of_turns(self):
        dice = random.Random(21)
        seen = set()
        for turn in range(800):
            loop = any_loop(dice, places=10)
            found = []
            for one, other in itertools.combinations(range(loop[1]), 2):
                cells = {}
                for turn in (one, other):
                    on = [(row[1][0] + row[1][1] * turn, row[0]) for row in loop[2] if row[0] in STRIDES]
                    cells[turn] = ({place for place, deed in on}, {place for place, deed in on if deed in ("store", "put")})
                if cells[one][0] & cells[other][1] or cells[one][1] & cells[other][0]:
                    found.append(other - one)
            self.assertEqual(reach(loop), min(found, default=None), loop)
            seen.add(reach(loop))
        self.assertLessEqual({None, 1, 2, 3}, seen)


class Refused(unittest.TestCase):
    WRONG = ODD + [
        [0, 1, (("number", 1),)], (0, 1, ()), (0, 0, (("number", 1),)), (0, 9, (("number", 1),)), (65, 1, (("number", 1),)),
        (0, True, (("number", 1),)), (0, 1, (("load", 0),)), (0, 2, (("load", (63, 1)),)), (0, 1, (("number", 1),) * 9),
        (0, 1, (("last", 1, 0),)), (0, 1, (("number", 1), ("store", (0, 0), 0), ("last", 1, 0))),
    ]
    LONG = (0, 8, (("number", 1),) * 6)

    def test_no_loop(self):
        for thing in self.WRONG:
            for call in (unrolled, turn_plan, reach):
                with self.assertRaises(NoLoop):
                    call(thing)
            for cells in ([], None, (1,), [1000]):
                with self.assertRaises(NoLoop):
                    run_loop(thing, cells)
            for lanes in (2, 5, None):
                with self.assertRaises(NoLoop):
                    turn_plan(thing, lanes=lanes)

    def test_no_lanes(self):
        for lanes in NO_LANES:
            for loop in (DOUBLED, self.LONG):
                with self.assertRaises(NoLanes):
                    turn_plan(loop, lanes=lanes)

    def test_no_cells(self):
        for sure in (1, 3, 64):
            loop = (sure, 1, (("number", 1),))
            self.assertEqual(run_loop(loop, [0] * sure), ([0] * sure, None))
            self.assertEqual(run_loop(loop, [0] * 64), ([0] * 64, None))
            for cells in ([0] * (sure - 1), [0] * 65, (0,) * sure, [1000] * sure, [-1] * sure, [True] * sure):
                with self.assertRaises(NoCells):
                    run_loop(loop, cells)
        for thing in ODD:
            if not isinstance(thing, list):
                with self.assertRaises(NoCells):
                    run_loop((0, 1, (("number", 1),)), thing)
            with self.assertRaises(NoCells):
                run_loop((0, 1, (("number", 1),)), [1, thing])

    def test_too_long(self):
        for call in (unrolled, turn_plan):
            with self.assertRaises(TooLong):
                call(self.LONG)
        for lanes in (2, 3, 4):
            with self.assertRaises(TooLong):
                turn_plan(self.LONG, lanes=lanes)
        # These ask for no block.
        self.assertIsNone(reach(self.LONG))
        self.assertEqual(run_loop(self.LONG, [1]), ([1], None))

    def test_what_is_handed_in_stays(self):
        for loop in (DOUBLED, SUMMED):
            again, cells = copy.deepcopy(loop), [1, 2, 3, 4, 5, 6, 7, 8, 9, 10]
            first = run_loop(again, cells)
            self.assertEqual(cells, [1, 2, 3, 4, 5, 6, 7, 8, 9, 10])
            self.assertIsNot(first[0], cells)
            self.assertIsNot(run_loop(again, cells)[0], first[0])
            self.assertEqual(unrolled(again), unrolled(loop))
            self.assertEqual(turn_plan(again), turn_plan(loop))
            self.assertEqual(reach(again), reach(loop))
            self.assertEqual(again, loop)


if __name__ == "__main__":
    unittest.main()

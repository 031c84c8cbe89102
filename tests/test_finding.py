"""Promises [7] and [14] and the interface's part finding, with [1] as far as it speaks of it."""

import copy
import itertools
import random
import unittest

from lanepacks.blocks import named
from lanepacks.errors import NoBlock, NoLanes, TooMany
from lanepacks.finding import best_plan, found_plan, packs
from lanepacks.plans import cost, is_plan, is_valid
from things import NO_BLOCKS, NO_LANES, all_plans, any_block, lane_block

DOUBLED = (8, (
    ("load", 0), ("plus", 0, 0), ("store", 4, 1), ("load", 1), ("plus", 3, 3), ("store", 5, 4),
    ("load", 2), ("plus", 6, 6),
))
EIGHT = (8, (("number", 1),) + (("plus", 0, 0),) * 7)
NINE = (8, (("number", 1),) + (("plus", 0, 0),) * 8)


def is_pack_by_words(block, rows):
    """Whether rows are a pack, by the words of [7] alone."""
    deeds = [block[1][row][0] for row in rows]
    if len(set(deeds)) > 1 or deeds[0] == "number" or list(rows) != sorted(set(rows)):
        return False
    if deeds[0] in ("load", "take", "store", "put"):
        places = [block[1][row][1] for row in rows]
        if any(after != before + 1 for before, after in zip(places, places[1:])):
            return False
    return not any(name in rows for row in rows for name in named(block, row))


class Packs(unittest.TestCase):
    def test_ordinary(self):
        self.assertEqual(packs(DOUBLED, 2), [(0, 3), (1, 4), (1, 7), (2, 5), (3, 6), (4, 7)])
        self.assertEqual(packs(DOUBLED, 3), [(0, 3, 6), (1, 4, 7)])
        self.assertEqual(packs(DOUBLED, 4), [])

    def test_none(self):
        for lanes in (2, 3, 4):
            self.assertEqual(packs((0, ()), lanes), [])
            self.assertEqual(packs((0, (("load", 0),)), lanes), [])
            self.assertEqual(packs((0, (("number", 0),) * 8), lanes), [])

    def test_as_many_as_there_are_lanes(self):
        for lanes, many in ((2, 21), (3, 35), (4, 35)):
            told = packs(EIGHT, lanes)
            self.assertEqual(told, list(itertools.combinations(range(1, 8), lanes)))
            self.assertEqual(len(told), many)

    def test_those_that_are_in_no_valid_plan_too(self):
        crossed = (4, (("load", 0), ("plus", 0, 0), ("minus", 1, 1), ("plus", 2, 2)))
        self.assertEqual(packs(crossed, 2), [(1, 3)])
        self.assertIs(is_valid(crossed, 2, ((1, 3),)), False)

    def test_places_not_by_their_rows(self):
        self.assertEqual(packs((0, (("load", 5), ("load", 4), ("load", 6), ("load", 5))), 2), [(0, 2), (1, 3)])

    def test_against_all_sets_of_rows(self):
        dice = random.Random(7)
        seen = 0
        for turn in range(800):
            block = any_block(dice, 8)
            for lanes in (2, 3, 4):
                sets = itertools.combinations(range(len(block[1])), lanes)
                meant = [rows for rows in sets if is_pack_by_words(block, rows)]
                told = packs(block, lanes)
                self.assertEqual(told, meant)
                self.assertEqual(told, sorted(told))
                seen += len(told)
        self.assertGreater(seen, 500)

    def test_new_lists_each_time(self):
        first = packs(DOUBLED, 2)
        self.assertIs(type(first), list)
        self.assertEqual({type(pack) for pack in first}, {tuple})
        kept = list(first)
        first.clear()
        self.assertEqual(packs(DOUBLED, 2), kept)


def best_by_words(block, lanes):
    """The best plan, all plans gone through."""
    return min((cost(block, lanes, plan), plan) for plan in all_plans(block, lanes) if is_valid(block, lanes, plan))[1]


class BestPlan(unittest.TestCase):
    def check(self, block, lanes, plan):
        told = best_plan(block, lanes=lanes)
        self.assertIs(type(told), tuple)
        self.assertEqual(told, plan)

    def test_ordinary(self):
        # Rows alone 7, and row 6 in a pack of its own would be gathered from.
        self.check(DOUBLED, 2, ((0, 3), (1, 4), (2, 5)))
        self.check((0, ()), 2, ())
        self.check((0, (("load", 0),)), 4, ())
        self.check((0, (("load", 0), ("load", 1))), 2, ((0, 1),))
        self.check((0, tuple([("load", place) for place in range(8)])), 4, ((0, 1, 2, 3), (4, 5, 6, 7)))
        self.check((0, tuple([("load", place) for place in range(8)])), 3, ((0, 1, 2), (3, 4, 5)))

    def test_of_two_of_the_same_cost_the_first(self):
        self.check(EIGHT, 2, ((1, 2), (3, 4), (5, 6)))
        self.check(EIGHT, 3, ((1, 2, 3), (4, 5, 6)))
        self.check(EIGHT, 4, ((1, 2, 3, 4),))
        # (0, 2) or (1, 2), each with the other load alone.
        self.check((2, (("load", 0), ("load", 0), ("load", 1))), 2, ((0, 2),))
        # Where all may fault (0, 2) is not valid.
        self.check((0, (("load", 0), ("load", 0), ("load", 1))), 2, ((1, 2),))
        # (0, 1) or (0, 2).
        self.check((0, (("load", 0), ("load", 1), ("load", 1))), 2, ((0, 1),))

    def test_no_pack_where_one_costs_the_same(self):
        # With the pack (0, 1): 1, and each of its rows drawn out.
        rows = (("load", 0), ("load", 1), ("plus", 0, 0))
        self.assertEqual(cost((2, rows), 2, ()), cost((2, rows), 2, ((0, 1),)))
        self.check((2, rows), 2, ())

    def test_not_one_that_is_not_valid(self):
        # Both packs would cost less, but they wait for one another.
        rows = (("number", 1), ("plus", 0, 0), ("minus", 1, 0), ("minus", 0, 0), ("plus", 3, 0))
        self.check((0, rows), 2, best_by_words((0, rows), 2))
        self.assertIn(best_plan((0, rows)), ((), ((1, 4),), ((2, 3),)))
        # The loads are round a store that must stay between.
        rows = (("number", 1), ("load", 0), ("store", 2, 0), ("load", 1))
        self.check((4, rows), 2, ((1, 3),))
        self.check((0, rows), 2, ())

    def test_against_all_plans(self):
        dice = random.Random(14)
        seen = set()
        for turn in range(250):
            block = any_block(dice, 8)
            for lanes in (2, 3, 4):
                told = best_plan(block, lanes=lanes)
                self.assertEqual(told, best_by_words(block, lanes), (block, lanes))
                seen.add(len(told))
        for turn in range(60):
            lanes = dice.choice((2, 4))
            block = lane_block(dice, lanes, 8 // lanes)
            self.assertEqual(best_plan(block, lanes=lanes), best_by_words(block, lanes))
            seen.add(len(best_plan(block, lanes=lanes)))
        self.assertLessEqual({0, 1, 2}, seen)

    def test_lanes_are_two_by_default_and_handed_in_by_name(self):
        self.assertEqual(best_plan(DOUBLED), best_plan(DOUBLED, lanes=2))
        self.assertEqual(best_plan(EIGHT), ((1, 2), (3, 4), (5, 6)))
        with self.assertRaises(TypeError):
            best_plan(DOUBLED, 2)


class FoundPlan(unittest.TestCase):
    def check(self, block, lanes):
        plan = found_plan(block, lanes=lanes)
        self.assertIs(type(plan), tuple)
        self.assertIs(is_plan(block, lanes, plan), True, (block, plan))
        self.assertIs(is_valid(block, lanes, plan), True, (block, plan))
        self.assertLessEqual(cost(block, lanes, plan), cost(block, lanes, ()), (block, plan))
        return plan

    def test_small_ones(self):
        for lanes in (2, 3, 4):
            self.assertEqual(self.check((0, ()), lanes), ())
            self.assertEqual(self.check((0, (("load", 0),)), lanes), ())
            self.check(DOUBLED, lanes)
            self.check(EIGHT, lanes)
            self.check(NINE, lanes)

    def test_packs_are_found(self):
        rows = []
        for place in range(12):
            rows += [("load", place), ("plus", 3 * place, 3 * place), ("store", 20 + place, 3 * place + 1)]
        for lanes, many in ((2, 18), (3, 12), (4, 9)):
            plan = self.check((64, tuple(rows)), lanes)
            self.assertEqual(cost((64, tuple(rows)), lanes, plan), many)

    def test_one_that_waits_for_others_is_left_alone(self):
        crossed = (4, (("load", 0), ("plus", 0, 0), ("minus", 1, 1), ("plus", 2, 2)))
        self.assertEqual(self.check(crossed, 2), ())
        waiting = (0, (("number", 1), ("plus", 0, 0), ("minus", 1, 0), ("minus", 0, 0), ("plus", 3, 0)))
        self.check(waiting, 2)
        # Of these both would pay, one of them does: the loads or the stores.
        rows = (("number", 1), ("load", 0), ("store", 0, 0), ("store", 1, 0), ("load", 1))
        self.assertIn(self.check((2, rows), 2), (((1, 4),), ((2, 3),)))

    def test_chains_side_by_side(self):
        # The two sums of a chain wait for one another; those of the unlike chains don't.
        rows = (("number", 1),)
        for place in (0, 1):
            first = len(rows)
            rows += (("load", place), ("plus", first, 0), ("minus", first + 1, 0), ("plus", first + 2, 0))
            rows += (("store", place, first + 3),)
        self.assertEqual(cost((2, rows), 2, self.check((2, rows), 2)), 5)

    def test_rows_that_are_taken_are_passed_over(self):
        rows = (("load", 0), ("load", 0), ("load", 1), ("load", 1))
        self.assertEqual(self.check((2, rows), 2), ((0, 2), (1, 3)))

    def test_packs_that_would_cost_more_are_left_out(self):
        # Each load is named by a row alone of another deed.
        rows = (("load", 0), ("load", 1), ("plus", 0, 1), ("minus", 1, 0), ("times", 0, 1))
        self.assertGreater(cost((2, rows), 2, ((0, 1),)), cost((2, rows), 2, ()) - 1)
        self.assertEqual(self.check((2, rows), 2), ())
        # Beside packs that pay.
        more = rows + (("load", 4), ("load", 5), ("store", 4, 6), ("store", 5, 5))
        self.assertEqual(self.check((9, more), 2), ((5, 6), (7, 8)))

    def test_packs_of_which_only_several_left_out_at_once_would_pay(self):
        rows = (("load", 0), ("load", 1), ("pick", 0, 1, 1), ("pick", 1, 1, 0), ("put", 3, 0, 1), ("put", 4, 2, 2))
        plan = ((0, 1), (2, 3), (4, 5))
        self.assertGreater(cost((3, rows), 2, plan), cost((3, rows), 2, ()))
        for left in itertools.combinations(plan, 2):
            self.assertGreaterEqual(cost((3, rows), 2, left), cost((3, rows), 2, plan))
        self.check((3, rows), 2)

    def test_by_dice(self):
        dice = random.Random(15)
        fewer = 0
        for turn in range(150):
            block = any_block(dice, 40, places=dice.choice((2, 6, 20)))
            for lanes in (2, 3, 4):
                plan = self.check(block, lanes)
                fewer += cost(block, lanes, plan) < cost(block, lanes, ())
        for turn in range(100):
            lanes = dice.choice((2, 3, 4))
            block = lane_block(dice, lanes, dice.randint(1, 40 // lanes), places=dice.choice((3, 30)))
            self.check(block, lanes)
        self.assertGreater(fewer, 20)

    def test_forty_rows(self):
        for block in ((0, (("number", 0),) * 40), (0, (("load", 0),) * 40), (0, (("load", 0),) + (("over", 0, 0),) * 39),
                      (64, tuple([("load", place) for place in range(40)]))):
            for lanes in (2, 3, 4):
                self.check(block, lanes)

    def test_lanes_are_four_by_default_and_handed_in_by_name(self):
        loads = (64, tuple([("load", place) for place in range(12)]))
        self.assertEqual(found_plan(loads), found_plan(loads, lanes=4))
        self.assertIs(is_plan(loads, 4, found_plan(loads)), True)
        self.assertNotEqual(found_plan(loads), ())
        with self.assertRaises(TypeError):
            found_plan(loads, 4)


class Refused(unittest.TestCase):
    CALLS = (packs, lambda block, lanes: best_plan(block, lanes=lanes), lambda block, lanes: found_plan(block, lanes=lanes))

    def test_no_block(self):
        for call, thing in itertools.product(self.CALLS, NO_BLOCKS):
            for lanes in (2, 5, None):
                with self.assertRaises(NoBlock):
                    call(thing, lanes)
        with self.assertRaises(NoBlock):
            best_plan(None)
        with self.assertRaises(NoBlock):
            found_plan(None)

    def test_no_lanes(self):
        for call, lanes in itertools.product(self.CALLS, NO_LANES):
            for block in (DOUBLED, NINE):
                with self.assertRaises(NoLanes):
                    call(block, lanes)

    def test_too_many(self):
        for lanes in (2, 3, 4):
            for call in self.CALLS[:2]:
                call(EIGHT, lanes)
                call((0, (("number", 0),) * 8), lanes)
                for block in (NINE, (0, (("number", 0),) * 9), (0, (("number", 0),) * 40)):
                    with self.assertRaises(TooMany):
                        call(block, lanes)
            found_plan(NINE, lanes=lanes)
        with self.assertRaises(TooMany):
            best_plan(NINE)

    def test_forty_one_rows_are_no_block(self):
        for call in self.CALLS:
            with self.assertRaises(NoBlock):
                call((0, (("number", 0),) * 41), 2)

    def test_what_is_handed_in_stays_and_equal_things_give_equal_answers(self):
        block = copy.deepcopy(DOUBLED)
        for call in self.CALLS:
            first = call(block, 2)
            self.assertEqual(block, DOUBLED)
            self.assertEqual(call((8, tuple([tuple(list(row)) for row in DOUBLED[1]])), 2), first)


if __name__ == "__main__":
    unittest.main()

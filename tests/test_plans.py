"""Promises [7], [8] and [9] and the interface's part plans, with [1] as far as it speaks of them."""

import itertools
import random
import unittest

from lanepacks.errors import NoBlock, NoLanes, NoPlan, NotValid
from lanepacks.orders import must
from lanepacks.plans import cost, is_plan, is_valid, order
from lanepacks.words import DEEDS
from things import NO_LANES, ODD, all_plans

# Four cells are read, doubled and written: 4 loads, 4 sums, 4 stores.
DOUBLED = (8, (
    ("load", 0), ("load", 1), ("load", 2), ("load", 3),
    ("plus", 0, 0), ("plus", 1, 1), ("plus", 2, 2), ("plus", 3, 3),
    ("store", 4, 4), ("store", 5, 5), ("store", 6, 6), ("store", 7, 7),
))

# The two sums wait for one another by way of row 2: 2 names 1, and 3 names 2.
CROSSED = (4, (("load", 0), ("plus", 0, 0), ("minus", 1, 1), ("plus", 2, 2)))

# The packs (1, 4) and (2, 3) wait for one another: 2 names 1, and 4 names 3.
WAITING = (4, (("load", 0), ("plus", 0, 0), ("minus", 1, 0), ("minus", 0, 0), ("plus", 3, 0)))


def small_block(dice):
    """A block of up to 6 rows, by dice that always fall the same."""
    rows, able = [], []
    for at in range(dice.randint(0, 6)):
        deeds = ["load", "number"] + (["plus", "plus", "over", "take", "store", "put", "pick"] if able else [])
        deed = dice.choice(deeds)
        name = [dice.choice(able) for spot in range(3)] if able else []
        place = dice.randint(0, 3)
        parts = {
            "number": (dice.randint(0, 2),), "load": (place,), "plus": name[:2], "over": name[:2], "pick": name,
            "take": [place] + name[:2], "store": [place] + name[:1], "put": [place] + name[:2],
        }
        rows.append((deed,) + tuple(parts[deed]))
        if deed not in ("store", "put"):
            able.append(at)
    return (dice.randint(0, 4), tuple(rows))


class IsPlan(unittest.TestCase):
    def yes(self, block, lanes, thing):
        self.assertIs(is_plan(block, lanes, thing), True, (block, lanes, thing))

    def no(self, block, lanes, thing):
        self.assertIs(is_plan(block, lanes, thing), False)

    def test_without_packs(self):
        for lanes in (2, 3, 4):
            self.yes((0, ()), lanes, ())
            self.yes(DOUBLED, lanes, ())

    def test_packs_of_two_three_and_four_lanes(self):
        self.yes(DOUBLED, 2, ((0, 1),))
        self.yes(DOUBLED, 2, ((0, 1), (2, 3), (4, 5), (6, 7), (8, 9), (10, 11)))
        self.yes(DOUBLED, 3, ((0, 1, 2), (5, 6, 7), (9, 10, 11)))
        self.yes(DOUBLED, 4, ((0, 1, 2, 3), (4, 5, 6, 7), (8, 9, 10, 11)))

    def test_another_number_of_lanes(self):
        packs = {2: (4, 5), 3: (4, 5, 6), 4: (4, 5, 6, 7)}
        for lanes, many in itertools.product((2, 3, 4), (2, 3, 4)):
            self.assertIs(is_plan(DOUBLED, lanes, (packs[many],)), lanes == many)
        for lanes in (2, 3, 4):
            self.no(DOUBLED, lanes, ((),))
            self.no(DOUBLED, lanes, ((4,),))
            self.no(DOUBLED, lanes, ((0, 1), (4, 5, 6)))

    def test_each_deed_of_words(self):
        for deed in DEEDS:
            block = (4, (("load", 0), (deed, 0, 0), (deed, 0, 0), (deed, 0, 0)))
            self.yes(block, 2, ((1, 2),))
            self.yes(block, 2, ((1, 3),))
            self.yes(block, 3, ((1, 2, 3),))
        block = (4, (("load", 0), ("pick", 0, 0, 0), ("pick", 0, 0, 0)))
        self.yes(block, 2, ((1, 2),))

    def test_unlike_deeds(self):
        deeds = DEEDS + ("pick",)
        for one, other in itertools.permutations(deeds, 2):
            rows = [(deed, 0, 0, 0)[:4 if deed == "pick" else 3] for deed in (one, other, one)]
            block = (4, (("load", 0),) + tuple(rows))
            self.no(block, 2, ((1, 2),))
            self.no(block, 2, ((2, 3),))
            self.no(block, 3, ((1, 2, 3),))
            self.yes(block, 2, ((1, 3),))

    def test_unlike_deeds_on_cells(self):
        made = {
            "load": lambda place: ("load", place), "take": lambda place: ("take", place, 0, 0),
            "store": lambda place: ("store", place, 0), "put": lambda place: ("put", place, 0, 0),
        }
        for one, other in itertools.product(made, made):
            block = (4, (("number", 1), made[one](0), made[other](1)))
            self.assertIs(is_plan(block, 2, ((1, 2),)), one == other)

    def test_number_rows(self):
        self.no((0, (("number", 0), ("number", 1), ("number", 2), ("number", 3))), 2, ((0, 1),))
        self.no((0, (("number", 5),) * 4), 4, ((0, 1, 2, 3),))

    def test_rows_not_rising(self):
        self.no(DOUBLED, 2, ((5, 4),))
        self.no(DOUBLED, 2, ((4, 4),))
        self.no(DOUBLED, 3, ((4, 6, 5),))
        self.no(DOUBLED, 3, ((5, 4, 6),))
        self.no(DOUBLED, 3, ((4, 5, 5),))
        # The places would fit, the rows fall.
        self.no((4, (("load", 1), ("load", 0))), 2, ((1, 0),))

    def test_rows_need_not_be_neighbours(self):
        self.yes(DOUBLED, 2, ((4, 7),))
        self.yes(DOUBLED, 3, ((4, 5, 7),))

    def test_places(self):
        rows = {
            "load": lambda place: ("load", place), "take": lambda place: ("take", place, 0, 0),
            "store": lambda place: ("store", place, 0), "put": lambda place: ("put", place, 0, 0),
        }
        for made in rows.values():
            for places in itertools.product(range(4), repeat=3):
                block = (4, (("number", 1),) + tuple([made(place) for place in places]))
                good = places[1] == places[0] + 1
                self.assertIs(is_plan(block, 2, ((1, 2),)), good)
                self.assertIs(is_plan(block, 3, ((1, 2, 3),)), good and places[2] == places[1] + 1)
            # Whether they are sure is no matter.
            self.yes((0, (("number", 1), made(62), made(63))), 2, ((1, 2),))

    def test_naming_one_another(self):
        block = (4, (("load", 0), ("plus", 0, 0), ("plus", 1, 0), ("plus", 0, 2), ("plus", 0, 0)))
        self.no(block, 2, ((1, 2),))
        self.no(block, 2, ((2, 3),))
        self.no(block, 3, ((1, 2, 4),))
        self.no(block, 3, ((2, 3, 4),))
        self.yes(block, 2, ((1, 4),))
        # By way of others only: a plan, though it is not valid.
        self.yes(block, 2, ((1, 3),))
        self.yes(CROSSED, 2, ((1, 3),))
        first_and_last = (4, (("load", 0), ("plus", 0, 0), ("plus", 0, 0), ("plus", 1, 0)))
        self.no(first_and_last, 3, ((1, 2, 3),))
        take = (4, (("load", 0), ("take", 1, 0, 0), ("take", 2, 1, 0), ("take", 2, 0, 1), ("take", 2, 0, 0)))
        self.no(take, 2, ((1, 2),))
        self.no(take, 2, ((1, 3),))
        self.yes(take, 2, ((1, 4),))

    def test_packs_not_rising(self):
        self.no(DOUBLED, 2, ((4, 5), (0, 1)))
        self.no(DOUBLED, 2, ((0, 1), (8, 9), (4, 5)))
        self.yes(DOUBLED, 2, ((4, 7), (5, 6)))
        self.no(DOUBLED, 2, ((5, 6), (4, 7)))

    def test_packs_sharing_a_row(self):
        self.no(DOUBLED, 2, ((0, 1), (0, 1)))
        self.no(DOUBLED, 2, ((0, 1), (1, 2)))
        self.no(DOUBLED, 2, ((4, 5), (4, 6)))
        self.no(DOUBLED, 2, ((4, 7), (5, 6), (6, 7)))

    def test_rows_that_are_not_there(self):
        for row in (12, 13, 40, 64):
            self.no(DOUBLED, 2, ((4, row),))
            self.no(DOUBLED, 2, ((11, row),))
        for row in (-1, -5, -12):
            self.no(DOUBLED, 2, ((row, 4),))
            self.no(DOUBLED, 2, ((4, row),))
        self.no((0, ()), 2, ((0, 1),))

    def test_a_number_below_nought_is_none_counted_from_the_end(self):
        block = (4, (("load", 0), ("plus", 0, 0), ("plus", 0, 0), ("plus", 0, 0)))
        for row in (-1, -2, -3):
            self.no(block, 2, ((row, 1),))
            self.no(block, 2, ((row, 2),))
            self.no(block, 3, ((row, 1, 2),))
        self.no(block, 2, ((-2, -1),))

    def test_lists_in_the_stead_of_tuples(self):
        self.no(DOUBLED, 2, [])
        self.no(DOUBLED, 2, [(0, 1)])
        self.no(DOUBLED, 2, ([0, 1],))
        self.no(DOUBLED, 2, ((0, 1), [4, 5]))
        self.no(DOUBLED, 2, (0, 1))

    def test_truths_in_the_stead_of_numbers(self):
        block = (2, (("load", 0), ("load", 1)))
        self.yes(block, 2, ((0, 1),))
        self.no(block, 2, ((False, 1),))
        self.no(block, 2, ((0, True),))
        self.no(block, 2, ((False, True),))

    def test_other_kinds(self):
        for thing in ODD:
            if not (isinstance(thing, tuple) and thing == ()):
                self.no(DOUBLED, 2, thing)
            self.no(DOUBLED, 2, (thing,))
            self.no(DOUBLED, 2, (thing, (4, 5)))
            self.no(DOUBLED, 2, ((4, 5), thing))
            if not (isinstance(thing, int) and not isinstance(thing, bool)):
                self.no(DOUBLED, 2, ((thing, 5),))
                self.no(DOUBLED, 2, ((4, thing),))
                self.no(DOUBLED, 2, ((thing, thing),))


class IsValid(unittest.TestCase):
    def yes(self, block, lanes, plan):
        self.assertIs(is_valid(block, lanes, plan), True, (block, lanes, plan))

    def no(self, block, lanes, plan):
        self.assertIs(is_valid(block, lanes, plan), False, (block, lanes, plan))

    def test_ordinary(self):
        self.yes((0, ()), 2, ())
        self.yes(DOUBLED, 4, ())
        self.yes(DOUBLED, 4, ((0, 1, 2, 3), (4, 5, 6, 7), (8, 9, 10, 11)))
        self.yes(DOUBLED, 2, ((0, 1), (4, 7), (5, 6), (8, 9)))

    def test_two_packs_that_wait_for_one_another(self):
        self.yes(WAITING, 2, ((1, 4),))
        self.yes(WAITING, 2, ((2, 3),))
        self.no(WAITING, 2, ((1, 4), (2, 3)))

    def test_three_packs_that_wait_in_a_ring(self):
        rows = (("load", 0), ("plus", 0, 0), ("minus", 1, 1), ("minus", 0, 0), ("times", 3, 3), ("times", 0, 0),
                ("plus", 5, 5))
        packs = ((1, 6), (2, 3), (4, 5))
        self.no((1, rows), 2, packs)
        for left in itertools.combinations(packs, 2):
            self.yes((1, rows), 2, left)

    def test_a_pack_and_a_row_alone(self):
        self.no(CROSSED, 2, ((1, 3),))

    def test_a_pack_round_a_row_that_must_stay_between(self):
        rows = (("number", 1), ("load", 0), ("store", 0, 0), ("load", 1))
        self.yes((2, rows), 2, ((1, 3),))
        # Both loads may fault, and the one between writes.
        self.no((0, rows), 2, ((1, 3),))
        # The second load alone may fault, so it stays behind the store, which the first stays ahead of.
        self.no((1, rows), 2, ((1, 3),))

    def test_packs_that_wait_for_one_another_by_their_cells(self):
        # One of the stores stays behind a load, the other one ahead of a load.
        rows = (("number", 1), ("load", 0), ("store", 0, 0), ("store", 1, 0), ("load", 1))
        self.yes((2, rows), 2, ((1, 4),))
        self.yes((2, rows), 2, ((2, 3),))
        self.no((2, rows), 2, ((1, 4), (2, 3)))

    def test_rows_of_one_pack_may_have_to_stay_ahead_of_one_another(self):
        rows = (("number", 1), ("load", 0), ("load", 1), ("over", 1, 2), ("over", 2, 1))
        self.assertIn((1, 2), must((0, rows)))
        self.assertIn((3, 4), must((0, rows)))
        self.yes((0, rows), 2, ((1, 2), (3, 4)))
        self.yes((0, (("number", 1), ("store", 0, 0), ("store", 1, 0))), 2, ((1, 2),))

    def test_by_every_order_of_the_nodes(self):
        dice = random.Random(8)
        seen = {True: 0, False: 0}
        for turn in range(800):
            block = small_block(dice)
            lanes = dice.choice((2, 2, 3))
            pairs = must(block)
            for plan in all_plans(block, lanes):
                taken = set(itertools.chain(*plan))
                nodes = list(plan) + [(row,) for row in range(len(block[1])) if row not in taken]
                good = any(keeps(nodes, pairs) for nodes in itertools.permutations(nodes))
                self.assertIs(is_valid(block, lanes, plan), good, (block, plan))
                seen[good] += 1
        self.assertGreater(min(seen.values()), 20)


def keeps(nodes, pairs):
    """Whether of rows in unlike nodes each one that must stay ahead does."""
    at = {row: spot for spot, node in enumerate(nodes) for row in node}
    return all(at[first] <= at[second] for first, second in pairs)


class Order(unittest.TestCase):
    def test_without_packs(self):
        self.assertEqual(order((0, ()), 2, ()), [])
        self.assertEqual(order(DOUBLED, 2, ()), [(row,) for row in range(12)])

    def test_packs(self):
        plan = ((0, 1, 2, 3), (4, 5, 6, 7), (8, 9, 10, 11))
        self.assertEqual(order(DOUBLED, 4, plan), list(plan))
        self.assertEqual(order(DOUBLED, 2, ((4, 7), (8, 9))), [
            (0,), (1,), (2,), (3,), (4, 7), (5,), (6,), (8, 9), (10,), (11,),
        ])

    def test_the_least_first_row_of_those_that_wait_for_none(self):
        # The pack (0, 4) waits for none though its last row is far behind.
        loads = (4, (("load", 0), ("load", 2), ("load", 3), ("number", 5), ("load", 1)))
        self.assertEqual(order(loads, 2, ((0, 4),)), [(0, 4), (1,), (2,), (3,)])
        self.assertEqual(order(loads, 2, ((0, 4), (1, 2))), [(0, 4), (1, 2), (3,)])

    def test_what_waits_is_done_as_soon_as_it_can(self):
        # The pack (1, 3) waits for row 2, and is done ahead of row 4 behind it.
        block = (4, (("load", 0), ("plus", 0, 0), ("load", 1), ("plus", 2, 2), ("load", 2), ("number", 7)))
        self.assertEqual(order(block, 2, ((1, 3),)), [(0,), (2,), (1, 3), (4,), (5,)])
        block = (4, (("load", 0), ("plus", 0, 0), ("number", 7), ("load", 2), ("load", 1), ("plus", 4, 4)))
        self.assertEqual(order(block, 2, ((1, 5),)), [(0,), (2,), (3,), (4,), (1, 5)])

    def test_by_the_words_of_the_document(self):
        dice = random.Random(9)
        for turn in range(200):
            block = small_block(dice)
            lanes = dice.choice((2, 2, 3))
            for plan in all_plans(block, lanes):
                if is_valid(block, lanes, plan):
                    self.check(block, plan, order(block, lanes, plan))

    def check(self, block, plan, told):
        taken = set(itertools.chain(*plan))
        left = sorted(list(plan) + [(row,) for row in range(len(block[1])) if row not in taken])
        pairs = must(block)
        for node in told:
            behind = [
                [other for other in left if other != one and any(
                    (first, second) in pairs for first in other for second in one)]
                for one in left
            ]
            free = [one for one, waits in zip(left, behind) if not waits]
            self.assertEqual(node, min(free))
            left.remove(node)
        self.assertEqual(left, [])

    def test_new_lists_of_tuples(self):
        told = order(DOUBLED, 2, ((4, 7),))
        self.assertIs(type(told), list)
        for node in told:
            self.assertIs(type(node), tuple)
        kept = list(told)
        told.clear()
        self.assertEqual(order(DOUBLED, 2, ((4, 7),)), kept)


class Cost(unittest.TestCase):
    """Behind each plan stands how its cost comes about."""

    def costs(self, block, lanes, plan, many):
        told = cost(block, lanes, plan)
        self.assertIs(type(told), int)
        self.assertEqual(told, many)

    def test_rows_alone(self):
        self.costs((0, ()), 2, (), 0)
        self.costs(DOUBLED, 2, (), 12)
        for row in [("load", 0), ("take", 0, 0, 0), ("store", 0, 0), ("put", 0, 0, 0), ("pick", 0, 0, 0)]:
            self.costs((4, (("number", 5), row)), 3, (), 1)
        for deed in DEEDS:
            self.costs((4, (("number", 5), (deed, 0, 0))), 4, (), 1)

    def test_number_rows(self):
        self.costs((0, (("number", 0),)), 2, (), 0)
        self.costs((0, (("number", 0),) * 40), 4, (), 0)

    def test_packs(self):
        loads = (0, tuple([("load", place) for place in range(12)]))
        self.costs(loads, 2, ((0, 1),), 1 + 10)
        self.costs(loads, 3, ((0, 1, 2),), 1 + 9)
        self.costs(loads, 4, ((0, 1, 2, 3),), 1 + 8)
        self.costs(loads, 4, ((0, 1, 2, 3), (4, 5, 6, 7), (8, 9, 10, 11)), 3)

    def test_a_tuple_that_is_a_pack(self):
        self.costs(DOUBLED, 4, ((0, 1, 2, 3), (4, 5, 6, 7), (8, 9, 10, 11)), 3)
        self.costs(DOUBLED, 2, ((0, 1), (2, 3), (4, 5), (6, 7), (8, 9), (10, 11)), 6)

    def test_a_tuple_that_could_be_a_pack_but_is_none_of_the_plan(self):
        rows = DOUBLED[1][:2] + (("plus", 0, 0), ("plus", 1, 1))
        self.costs((8, rows), 2, ((0, 1), (2, 3)), 2)
        # Two loads alone, one pack, one tuple gathered.
        self.costs((8, rows), 2, ((2, 3),), 2 + 1 + 2)

    def test_a_tuple_of_number_rows_alone(self):
        rows = (("number", 1), ("number", 2), ("plus", 0, 1), ("plus", 1, 1), ("plus", 0, 0))
        self.costs((0, rows), 2, ((2, 3),), 1 + 1)
        self.costs((0, rows), 3, ((2, 3, 4),), 1)

    def test_a_tuple_with_number_rows_among_others(self):
        # A load alone, one pack, (0, 1) and (1, 0) gathered.
        rows = (("number", 1), ("load", 0), ("plus", 0, 1), ("plus", 1, 0))
        self.costs((1, rows), 2, ((2, 3),), 1 + 1 + 2 + 2)
        # The rows 1 and 2 are a pack; (0, 1) is gathered, so row 1 is drawn out, and row 2 for (2, 0).
        rows = (("number", 1), ("load", 0), ("load", 1), ("plus", 0, 2), ("plus", 1, 0))
        self.costs((2, rows), 2, ((1, 2), (3, 4)), 2 + 2 + 2 + 2)

    def test_one_packs_rows_in_another_order(self):
        rows = (("load", 0), ("load", 1), ("plus", 1, 0), ("plus", 0, 1))
        # (1, 0) is shuffled, (0, 1) is a pack.
        self.costs((2, rows), 2, ((0, 1), (2, 3)), 2 + 1)
        rows = (("load", 0), ("load", 1), ("store", 2, 1), ("store", 3, 0))
        self.costs((4, rows), 2, ((0, 1), (2, 3)), 2 + 1)

    def test_one_row_of_a_pack_in_all_lanes(self):
        rows = (("load", 0), ("load", 1), ("store", 2, 1), ("store", 3, 1))
        self.costs((4, rows), 2, ((0, 1), (2, 3)), 2 + 1)

    def test_two_packs_rows(self):
        rows = (("load", 0), ("load", 1), ("load", 2), ("load", 3), ("store", 4, 1), ("store", 5, 2))
        self.costs((8, rows), 2, ((0, 1), (2, 3), (4, 5)), 3 + 1)
        rows = tuple([("load", place) for place in range(8)]) + tuple([
            ("store", 8 + place, row) for place, row in enumerate((7, 0, 7, 3))
        ])
        self.costs((12, rows), 4, ((0, 1, 2, 3), (4, 5, 6, 7), (8, 9, 10, 11)), 3 + 1)

    def test_three_packs_rows(self):
        loads = tuple([("load", place) for place in range(9)])
        packs = ((0, 1, 2), (3, 4, 5), (6, 7, 8), (9, 10, 11))

        def stored(*rows):
            return (12, loads + tuple([("store", 9 + at, row) for at, row in enumerate(rows)]))

        self.costs(stored(0, 3, 3), 3, packs, 4 + 1)
        self.costs(stored(0, 3, 0), 3, packs, 4 + 1)
        # Gathered of three packs, and each of the three rows is drawn out.
        self.costs(stored(0, 3, 6), 3, packs, 4 + 3 + 3)

    def test_four_lanes_of_three_packs(self):
        loads = tuple([("load", place) for place in range(12)])
        packs = ((0, 1, 2, 3), (4, 5, 6, 7), (8, 9, 10, 11), (12, 13, 14, 15))
        for rows, many in (((0, 4, 8, 9), 4 + 4 + 4), ((0, 0, 4, 8), 4 + 4 + 3), ((0, 0, 4, 5), 4 + 1)):
            stores = tuple([("store", 12 + at, row) for at, row in enumerate(rows)])
            self.costs((16, loads + stores), 4, packs, many)

    def test_rows_alone_are_gathered(self):
        rows = (("load", 0), ("load", 5), ("load", 9), ("store", 1, 0), ("store", 2, 1), ("store", 3, 2))
        self.costs((9, rows[:2] + rows[3:4] + (("store", 2, 1),)), 2, ((2, 3),), 2 + 1 + 2)
        self.costs((10, rows), 3, ((3, 4, 5),), 3 + 1 + 3)

    def test_one_row_alone_in_all_lanes_is_gathered(self):
        rows = (("load", 0), ("store", 1, 0), ("store", 2, 0), ("store", 3, 0), ("store", 4, 0))
        self.costs((9, rows), 2, ((1, 2),), 1 + 2 + 1 + 2)
        self.costs((9, rows), 4, ((1, 2, 3, 4),), 1 + 1 + 4)

    def test_a_row_alone_beside_one_of_a_pack(self):
        rows = (("load", 0), ("load", 1), ("load", 9), ("store", 2, 0), ("store", 3, 2))
        # Row 2 alone, two packs, (0, 2) gathered, row 0 drawn out.
        self.costs((9, rows), 2, ((0, 1), (3, 4)), 1 + 2 + 2 + 1)

    def test_one_tuple_wished_twice(self):
        rows = (("load", 0), ("load", 1), ("plus", 1, 1), ("plus", 0, 0), ("times", 1, 0), ("times", 0, 1))
        # (1, 0) thrice, by two packs, is shuffled once; (0, 1) is a pack.
        self.costs((2, rows), 2, ((0, 1), (2, 3), (4, 5)), 3 + 1)
        # Both alone, (1, 0) and (0, 1) are gathered, each once.
        self.costs((2, rows), 2, ((2, 3), (4, 5)), 2 + 2 + 2 + 2)

    def test_unlike_tuples_of_the_same_rows_cost_each(self):
        rows = (("load", 0), ("load", 1), ("plus", 1, 0), ("plus", 1, 0))
        self.costs((2, rows), 2, ((0, 1), (2, 3)), 2 + 1 + 1)

    def test_each_place_where_a_row_is_named(self):
        load = tuple([("load", place) for place in range(4)])
        picks = (("pick", 0, 2, 1), ("pick", 1, 3, 0))
        # (0, 1) and (2, 3) are packs, (1, 0) is shuffled.
        self.costs((9, load + picks), 2, ((0, 1), (2, 3), (4, 5)), 3 + 1)
        takes = (("take", 4, 1, 0), ("take", 5, 0, 1))
        self.costs((9, load + takes), 2, ((0, 1), (2, 3), (4, 5)), 3 + 1)
        puts = (("put", 4, 0, 3), ("put", 5, 1, 2))
        self.costs((9, load + puts), 2, ((0, 1), (2, 3), (4, 5)), 3 + 1)
        # A place is no row: the numbers of the cells 0 and 1 wish nothing.
        stores = (("store", 0, 2), ("store", 1, 3))
        self.costs((9, load + stores), 2, ((0, 1), (2, 3), (4, 5)), 3)

    def test_a_row_of_a_pack_named_by_a_row_alone(self):
        rows = (("load", 0), ("load", 1), ("store", 5, 1))
        self.costs((9, rows), 2, ((0, 1),), 1 + 1 + 1)
        # By several rows alone, and twice by one of them: once.
        rows = (("load", 0), ("load", 1), ("store", 5, 1), ("plus", 1, 1), ("store", 7, 1))
        self.costs((9, rows), 2, ((0, 1),), 3 + 1 + 1)
        # Each unlike row by itself.
        rows = (("load", 0), ("load", 1), ("plus", 0, 1))
        self.costs((9, rows), 2, ((0, 1),), 1 + 1 + 2)

    def test_a_row_of_a_pack_named_by_a_row_alone_and_gathered_as_well(self):
        rows = (("load", 0), ("load", 1), ("number", 4), ("store", 5, 1), ("store", 6, 2), ("plus", 1, 1))
        # The row alone, two packs, (1, 2) gathered, row 1 drawn out once.
        self.costs((9, rows), 2, ((0, 1), (3, 4)), 1 + 2 + 2 + 1)

    def test_a_row_in_two_tuples_that_are_gathered(self):
        rows = (("load", 0), ("load", 1), ("number", 4), ("plus", 1, 2), ("plus", 2, 1))
        # (1, 2) and (2, 1) are gathered, row 1 is drawn out once.
        self.costs((9, rows), 2, ((0, 1), (3, 4)), 2 + 4 + 1)

    def test_rows_of_packs_named_by_packs_are_not_drawn_out(self):
        rows = (("load", 0), ("load", 1), ("store", 2, 1), ("store", 3, 0), ("number", 9))
        self.costs((9, rows), 2, ((0, 1), (2, 3)), 2 + 1)

    def test_a_row_alone_named_by_a_row_alone_costs_no_more(self):
        self.costs((9, (("load", 0), ("plus", 0, 0), ("store", 1, 1))), 2, (), 3)


class Refused(unittest.TestCase):
    CALLS = (is_plan, is_valid, order, cost)

    def test_no_block(self):
        for call in self.CALLS:
            for thing in ODD + [[8, DOUBLED[1]], (65, ()), (True, ()), (0, (("plus", 0, 0),))]:
                with self.assertRaises(NoBlock):
                    call(thing, 2, ())

    def test_no_lanes(self):
        for call in self.CALLS:
            for lanes in NO_LANES:
                with self.assertRaises(NoLanes):
                    call(DOUBLED, lanes, ())
            for lanes in (2, 3, 4):
                call(DOUBLED, lanes, ())

    def test_no_plan(self):
        wrong = [[], [(0, 1)], ([0, 1],), ((1, 0),), ((0, 1), (1, 2)), ((4, 5), (0, 1)), ((0, 1, 2),), ((0, 4),),
                 ((False, True),), (0, 1), ((10, 12),)]
        for call in self.CALLS[1:]:
            for thing in wrong + [thing for thing in ODD if not (isinstance(thing, tuple) and thing == ())]:
                with self.assertRaises(NoPlan):
                    call(DOUBLED, 2, thing)

    def test_not_valid(self):
        for block, plan in ((CROSSED, ((1, 3),)), (WAITING, ((1, 4), (2, 3)))):
            self.assertIs(is_valid(block, 2, plan), False)
            for call in (order, cost):
                with self.assertRaises(NotValid) as caught:
                    call(block, 2, plan)
                self.assertIs(caught.exception.packs, plan)

    def test_which_comes_first(self):
        for call in self.CALLS:
            for lanes, thing in itertools.product((2, 5, None), ((), [], None)):
                with self.assertRaises(NoBlock):
                    call((65, ()), lanes, thing)
            for lanes, thing in itertools.product((1, 5, True, None), ((), [], None, ((1, 3),))):
                with self.assertRaises(NoLanes):
                    call(CROSSED, lanes, thing)
        for call in (order, cost):
            with self.assertRaises(NoPlan):
                call(CROSSED, 2, ((1, 3), (1, 3)))
            with self.assertRaises(NoPlan):
                call(CROSSED, 3, ((1, 3),))

    def test_what_is_handed_in_stays(self):
        thing = [[0, 1], [4, 5]]
        for call in self.CALLS[1:]:
            with self.assertRaises(NoPlan):
                call(DOUBLED, 2, thing)
        self.assertIs(is_plan(DOUBLED, 2, thing), False)
        self.assertEqual(thing, [[0, 1], [4, 5]])

    def test_equal_things_give_equal_answers(self):
        other = (8, tuple([tuple(list(row)) for row in DOUBLED[1]]))
        plan = ((0, 1), (4, 7))
        again = tuple([tuple(list(pack)) for pack in plan])
        for call in self.CALLS:
            self.assertEqual(call(DOUBLED, 2, plan), call(other, 2, again))
            self.assertEqual(call(DOUBLED, 2, plan), call(DOUBLED, 2, plan))


if __name__ == "__main__":
    unittest.main()

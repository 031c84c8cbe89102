"""Promises [16] and [17] and the interface's part trees, with [1] as far as it speaks of it."""

import copy
import itertools
import random
import unittest

from lanepacks.blocks import is_block
from lanepacks.errors import NoCells, NoTree, TooLong
from lanepacks.running import run
from lanepacks.trees import flattened, is_tree, run_tree
from lanepacks.words import DEEDS
from things import ALL_DEEDS, ODD, ON_CELLS, any_cells, any_row

# Two ifs within one another; behind each row its number.
TREE = (3, (
    ("load", 0),                               # 0
    ("number", 4),                             # 1
    ("if", 0, (                                # 2
        ("plus", 0, 1),                        # 3
        ("if", 3, (                            # 4
            ("store", 1, 3),                   # 5
        ), (
            ("store", 1, 1),                   # 6
            ("load", 2),                       # 7
        )),
        ("store", 2, 3),                       # 8
    ), (
        ("load", 5),                           # 9
        ("store", 0, 9),                       # 10
    )),
    ("store", 3, 1),                           # 11
))


def many_rows(rows):
    return sum(1 + many_rows(row[2]) + many_rows(row[3]) if row[0] == "if" else 1 for row in rows)


def run_by_words(tree, cells):
    """How a tree runs by the words of [16]: side by side it walks, counting what it passes over."""
    cells, words = list(cells), {}

    def deed(row):
        def word(name):
            return words[name]

        kind = row[0]
        if kind == "number":
            return row[1]
        if kind == "pick":
            return word(row[2]) if word(row[1]) else word(row[3])
        if kind in DEEDS:
            a, b = word(row[1]), word(row[2])
            if kind == "over" and b == 0:
                raise ZeroDivisionError
            return {
                "plus": lambda: (a + b) % 1000, "minus": lambda: (a - b) % 1000, "times": lambda: (a * b) % 1000,
                "least": lambda: min(a, b), "most": lambda: max(a, b), "less": lambda: int(a < b),
                "over": lambda: a // b,
            }[kind]()
        if kind == "take" and word(row[2]) == 0:
            return word(row[3])
        if kind == "put" and word(row[3]) == 0:
            return None
        if row[1] >= len(cells):
            raise IndexError
        if kind in ("load", "take"):
            return cells[row[1]]
        cells[row[1]] = word(row[2])
        return None

    def walk(rows, at):
        for row in rows:
            if row[0] == "if":
                first, second = at + 1, at + 1 + many_rows(row[2])
                fault = walk(row[2], first) if words[row[1]] else walk(row[3], second)
                if fault:
                    return fault
                at = second + many_rows(row[3])
                continue
            try:
                words[at] = deed(row)
            except ZeroDivisionError:
                return (at, "nought")
            except IndexError:
                return (at, "beyond")
            at += 1
        return None

    fault = walk(tree[1], 0)
    return (cells, fault)


def any_tree(dice, most, places=4):
    """A tree of up to so many rows in all, by dice that always fall the same."""
    left = [dice.randint(0, most)]
    deeds = [dice.choice(ALL_DEEDS) for some in range(4)] + ["load"]
    count = [0]

    def side(able, deep):
        rows, able = [], list(able)
        while left[0] > 0:
            if deep and dice.random() < 0.3:
                break
            left[0] -= 1
            at = count[0]
            count[0] += 1
            if able and deep < 3 and dice.random() < 0.3:
                c = dice.choice(able)
                rows.append(("if", c, side(able, deep + 1), side(able, deep + 1)))
                continue
            rows.append(any_row(dice, able, places, deeds))
            if rows[-1][0] not in ("store", "put"):
                able.append(at)
        return tuple(rows)

    return (dice.randint(0, places), side([], 0))


class IsTree(unittest.TestCase):
    def yes(self, thing):
        self.assertIs(is_tree(thing), True, thing)

    def no(self, thing):
        self.assertIs(is_tree(thing), False)

    def test_ordinary(self):
        self.yes(TREE)
        self.yes((0, ()))
        self.yes((64, (("number", 1), ("if", 0, (), ()))))

    def test_blocks_are_trees(self):
        self.yes((2, (("load", 0), ("number", 5), ("plus", 0, 1), ("store", 1, 2))))
        for made in ON_CELLS.values():
            self.yes((2, (("number", 1), made(63, 0, 0))))
            self.no((2, (("number", 1), made(64, 0, 0))))

    def test_sure(self):
        for sure in (0, 1, 64):
            self.yes((sure, TREE[1]))
        for sure in (-1, 65, "0", None, True, (0,)):
            self.no((sure, TREE[1]))

    def test_an_if_names_a_row_ahead_that_makes_a_word(self):
        self.no((0, (("if", 0, (), ()),)))
        self.no((0, (("if", 0, (), ()), ("number", 1))))
        self.no((0, (("number", 1), ("if", 1, (), ()))))
        self.no((0, (("number", 1), ("if", -1, (), ()))))
        self.no((0, (("number", 1), ("store", 0, 0), ("if", 1, (), ()))))
        self.yes((0, (("number", 1), ("store", 0, 0), ("if", 0, (), ()))))

    def test_the_if_itself_is_not_named(self):
        for last in (("plus", 1, 0), ("plus", 0, 1), ("store", 0, 1), ("if", 1, (), ())):
            self.no((0, (("number", 1), ("if", 0, (), ()), last)))
            self.no((0, (("number", 1), ("if", 0, (last,), ()))))
            self.no((0, (("number", 1), ("if", 0, (), (last,)))))

    def test_rows_are_numbered_an_if_ahead_of_those_within_it(self):
        number = ("number", 1)
        self.yes((0, (number, ("if", 0, (number, ("plus", 2, 0)), ()))))
        self.no((0, (number, ("if", 0, (number, ("plus", 1, 0)), ()))))
        self.no((0, (number, ("if", 0, (number, ("plus", 3, 0)), ()))))
        self.yes((0, (number, ("if", 0, (number, number), (number, ("plus", 4, 0))))))
        self.yes((0, (number, ("if", 0, (number, number), (number,)), number, ("plus", 5, 0))))
        self.no((0, (number, ("if", 0, (number, number), (number,)), number, ("plus", 4, 0))))
        self.no((0, (number, ("if", 0, (number, number), (number,)), number, ("plus", 6, 0))))

    def test_a_row_out_of_an_if_that_is_over(self):
        number = ("number", 1)
        for name in (2, 3):
            for last in (("plus", name, 0), ("store", 0, name), ("if", name, (), ()), ("put", 0, 0, name)):
                self.no((0, (number, ("if", 0, (number,), (number,)), last)))
        # Out of an inner one, while the outer one is not over.
        inner = ("if", 0, (number,), ())
        self.no((0, (number, ("if", 0, (inner, ("plus", 3, 0)), ()))))
        self.yes((0, (number, ("if", 0, (number, inner, ("plus", 2, 0)), ()))))

    def test_a_row_out_of_the_other_side(self):
        number = ("number", 1)
        self.no((0, (number, ("if", 0, (number,), (("plus", 2, 0),)))))
        self.yes((0, (number, ("if", 0, (number, ("plus", 2, 0)), ()))))
        self.no((0, (number, ("if", 0, (number,), (("if", 2, (), ()),)))))
        self.no((0, (number, ("if", 0, (("if", 0, (number,), (("plus", 3, 0),)),), ()))))
        # The side's rows are in sight of ifs within it, on both of their sides.
        self.yes((0, (number, ("if", 0, (number, ("if", 2, (("plus", 2, 0),), (("plus", 2, 2),))), ()))))

    def test_rows_in_sight_make_a_word(self):
        self.no((0, (("number", 1), ("if", 0, (("store", 0, 0), ("plus", 2, 0)), ()))))
        self.no((0, (("number", 1), ("if", 0, (("store", 0, 0), ("if", 2, (), ())), ()))))

    def test_three_ifs_deep_and_four(self):
        number = ("number", 1)
        for deep in range(1, 6):
            for side in (0, 1):
                row = number
                for times in range(deep):
                    row = ("if", 0, (row,), ()) if side == 0 else ("if", 0, (), (row,))
                self.assertIs(is_tree((0, (number, row))), deep <= 3)
        # Any number of them beside one another.
        self.yes((0, (number,) + (("if", 0, (), ()),) * 19))
        inner = ("if", 0, (), ())
        for times in range(3):
            self.yes((0, (number, inner)))
            inner = ("if", 0, (inner,), (inner,))
        self.no((0, (number, inner)))

    def test_twenty_rows_and_twenty_one(self):
        number = ("number", 1)
        self.yes((0, (number,) * 20))
        self.no((0, (number,) * 21))
        self.no((0, (number,) * 40))
        for inside in range(19):
            for many in (18, 19, 20):
                left = (number,) * inside
                right = (number,) * (many - 1 - inside)
                self.assertIs(is_tree((0, (number, ("if", 0, left, right)))), many <= 19)
        self.assertIs(is_tree((0, (number, ("if", 0, (number,) * 17, ()), number))), True)
        self.assertIs(is_tree((0, (number, ("if", 0, (number,) * 17, ()), number, number))), False)
        # The ifs count.
        self.yes((0, (number,) + (("if", 0, (), ()),) * 19))
        self.no((0, (number,) + (("if", 0, (), ()),) * 20))

    def test_a_tree_is_not_walked_without_end(self):
        deep = ()
        for times in range(3000):
            deep = (("if", 0, deep, deep),)
        self.no((0, (("number", 1),) + deep))
        wide = (("number", 1),) * 100000
        self.no((0, wide))
        self.no((0, (("number", 1), ("if", 0, wide, wide))))

    def test_lists_in_the_stead_of_tuples(self):
        number = ("number", 1)
        self.no([0, (number,)])
        self.no((0, [number]))
        self.no((0, (["number", 1],)))
        self.no((0, (number, ["if", 0, (), ()])))
        self.no((0, (number, ("if", 0, [], ()))))
        self.no((0, (number, ("if", 0, (), []))))
        self.no((0, (number, ("if", 0, (number,), [number]))))
        self.no((0, (number, ("if", 0, (["number", 1],), ()))))

    def test_truths_in_the_stead_of_numbers(self):
        number = ("number", 1)
        self.no((False, (number,)))
        self.no((0, (("number", True),)))
        self.no((0, (number, ("if", False, (), ()))))
        self.no((0, (number, number, ("if", True, (), ()))))
        self.no((0, (number, ("if", 0, (("plus", False, 0),), ()))))
        self.no((0, (number, ("if", 0, (("number", False),), ()))))
        self.no((0, (number, ("if", 0, (("load", True),), ()))))

    def test_other_kinds(self):
        number = ("number", 1)
        for thing in ODD:
            self.no(thing)
            self.no((thing, ()))
            self.no((0, (thing,)))
            self.no((0, (number, thing)))
            self.no((0, (number, ("if", thing, (), ()))))
            self.no((0, (number, ("if", 0, (thing,), ()))))
            self.no((0, (number, ("if", 0, (), (number, thing)))))
            self.no((0, (number, (thing, 0, (), ()))))
            if not (isinstance(thing, tuple) and len(thing) == 0):
                self.no((0, thing))
                self.no((0, (number, ("if", 0, thing, ()))))
                self.no((0, (number, ("if", 0, (), thing))))

    def test_other_lengths(self):
        number = ("number", 1)
        self.no((0,))
        self.no((0, (), ()))
        for row in (("if",), ("if", 0), ("if", 0, ()), ("if", 0, (), (), ()), ("If", 0, (), ()), ("if", (), ())):
            self.no((0, (number, row)))


class RunTree(unittest.TestCase):
    def check(self, tree, cells, then, fault):
        told = run_tree(tree, cells)
        self.assertIs(type(told), tuple)
        self.assertIs(type(told[0]), list)
        self.assertEqual(told, (then, fault))

    def test_ordinary(self):
        self.check(TREE, [7, 0, 0, 0], [7, 11, 11, 4], None)
        self.check(TREE, [996, 0, 0, 0], [996, 4, 0, 4], None)
        self.check(TREE, [0, 1, 2, 3, 4, 5], [5, 1, 2, 4, 4, 5], None)
        self.check((0, ()), [], [], None)

    def test_the_faults_row(self):
        self.check(TREE, [0, 1, 2], [0, 1, 2], (9, "beyond"))
        self.check(TREE, [7, 0, 0], [7, 11, 11], (11, "beyond"))
        self.check(TREE, [0] * 5, [0] * 5, (9, "beyond"))

    def test_both_sides(self):
        tree = (1, (("load", 0), ("number", 5), ("if", 0, (("store", 1, 0),), (("store", 2, 1),))))
        for word in (1, 2, 500, 999):
            self.check(tree, [word, 0, 0], [word, word, 0], None)
            self.check(tree, [word], [word], (3, "beyond"))
        self.check(tree, [0, 0, 0], [0, 0, 5], None)
        self.check(tree, [0], [0], (4, "beyond"))

    def test_each_deed_on_both_sides(self):
        rows = [(deed, 1, 0) for deed in DEEDS] + [("pick", 0, 1, 0)] + [made(2, 1, 0) for made in ON_CELLS.values()]
        for row, c, swapped in itertools.product(rows, (0, 3), (False, True)):
            sides = ((row,), ()) if not swapped else ((), (row,))
            tree = (1, (("load", 0), ("number", 4), ("if", 0) + sides, ("store", 0, 1)))
            done = (c != 0) != swapped
            then, fault = run_tree(tree, [c])
            if not done:
                self.assertEqual((then, fault), ([4], None))
            elif row[0] in ON_CELLS and not (row[0] == "put" and c == 0):
                self.assertEqual((then, fault), ([c], (3, "beyond")))
            elif row[0] == "over" and c == 0:
                self.assertEqual((then, fault), ([c], (3, "nought")))
            else:
                self.assertEqual((then, fault), ([4], None))

    def test_three_deep(self):
        tree = (3, (("load", 0), ("load", 1), ("load", 2), ("number", 9), ("if", 0, (
            ("if", 1, (("if", 2, (("store", 3, 3),), (("store", 4, 3),)),), (("if", 2, (("store", 5, 3),), ()),)),
        ), (
            ("if", 1, (), (("if", 2, (), (("store", 6, 3),)),)),
        ))))
        places = {(1, 1, 1): 3, (1, 1, 0): 4, (1, 0, 1): 5, (0, 0, 0): 6}
        for cells in itertools.product((0, 1), repeat=3):
            meant = list(cells) + [0] * 4
            if cells in places:
                meant[places[cells]] = 9
            self.check(tree, list(cells) + [0] * 4, meant, None)
        self.check(tree, [1, 1, 1], [1, 1, 1], (7, "beyond"))
        self.check(tree, [1, 1, 0], [1, 1, 0], (8, "beyond"))
        self.check(tree, [1, 0, 1], [1, 0, 1], (10, "beyond"))
        self.check(tree, [0, 0, 0], [0, 0, 0], (13, "beyond"))

    def test_a_c_that_was_not_done(self):
        # Row 2, by which the inner if goes, is on a side that is not done.
        tree = (1, (("load", 0), ("if", 0, (("load", 1), ("if", 2, (("store", 0, 2),), (("store", 0, 0),))), ())))
        self.check(tree, [0], [0], None)
        self.check(tree, [3], [3], (2, "beyond"))
        self.check(tree, [3, 0], [3, 0], None)
        self.check(tree, [3, 8], [8, 8], None)

    def test_against_a_walk(self):
        dice = random.Random(16)
        seen = set()
        for turn in range(1500):
            tree = any_tree(dice, 20)
            self.assertIs(is_tree(tree), True)
            for again in range(3):
                cells = any_cells(dice, tree[0], 7)
                told = run_tree(tree, cells)
                self.assertEqual(told, run_by_words(tree, cells), (tree, cells))
                seen.add(told[1] and told[1][1])
        self.assertEqual(seen, {None, "beyond", "nought"})

    def test_blocks_run_as_they_do(self):
        block = (2, (("load", 0), ("number", 5), ("plus", 0, 1), ("store", 1, 2), ("load", 4)))
        for many in range(2, 7):
            self.assertEqual(run_tree(block, [3] * many), run(block, [3] * many))


class Flattened(unittest.TestCase):
    def flat(self, tree):
        told = flattened(tree)
        self.assertIs(type(told), tuple)
        block, numbers = told
        self.assertIs(is_block(block), True, block)
        self.assertEqual(block[0], tree[0])
        self.assertIs(type(numbers), list)
        self.assertEqual([number is None for number in numbers], [row[0] == "if" for row in rows_of(tree[1])])
        for row, number in zip(rows_of(tree[1]), numbers):
            if number is not None:
                like = {"load": ("load", "take"), "store": ("store", "put")}.get(row[0], (row[0],))
                self.assertIn(block[1][number][0], like)
        return block, numbers

    def same(self, tree, told, cells):
        block, numbers = told
        then, fault = run_by_words(tree, cells)
        meant = None if fault is None else (numbers[fault[0]], fault[1])
        self.assertEqual(run(block, cells), (then, meant), (tree, block, cells))
        return fault

    def test_ordinary(self):
        told = self.flat(TREE)
        for cells in ([7, 0, 0, 0], [996, 0, 0, 0], [0, 1, 2, 3, 4, 5], [0, 1, 2], [7, 0, 0], [1, 2, 3]):
            self.same(TREE, told, cells)

    def test_without_ifs_it_stays(self):
        block = (2, (("load", 0), ("number", 5), ("plus", 0, 1), ("store", 1, 2), ("load", 4)))
        self.assertEqual(flattened(block), (block, [0, 1, 2, 3, 4]))
        self.assertEqual(flattened((5, ())), ((5, ()), []))
        self.assertEqual(flattened((5, (("number", 3),) * 20)), ((5, (("number", 3),) * 20), list(range(20))))

    def test_each_deed_on_both_sides(self):
        rows = [(deed, 1, 0) for deed in DEEDS] + [("over", 1, 1), ("over", 0, 1), ("pick", 0, 1, 0), ("number", 6)]
        rows += [made(place, a, b) for made in ON_CELLS.values() for place in (1, 2)
                 for a, b in itertools.product((0, 1), repeat=2)]
        for row, swapped, sure in itertools.product(rows, (False, True), (1, 2, 3)):
            ends = () if row[0] in ("store", "put") else (("store", 0, 3),)
            sides = ((row,) + ends, ()) if not swapped else ((), (row,) + ends)
            tree = (sure, (("load", 0), ("number", 4), ("if", 0) + sides, ("store", 3, 1)))
            told = self.flat(tree)
            for c, many in itertools.product((0, 1, 3, 999), range(sure, 6)):
                self.same(tree, told, ([c, 7, 8, 9, 10, 11])[:many])

    def test_what_is_on_the_side_that_is_not_done_touches_no_cell(self):
        for deed, made in ON_CELLS.items():
            for deep in (1, 2, 3):
                for sides in itertools.product((0, 1), repeat=deep):
                    inner = (("number", 8), made(5, 1, 1))
                    for side in reversed(sides):
                        inner = (("if", 0, inner, ()),) if side == 0 else (("if", 0, (), inner),)
                    tree = (1, (("load", 0), ("number", 1)) + inner)
                    told = self.flat(tree)
                    for c, many in itertools.product((0, 1, 7), (1, 5, 6, 7)):
                        fault = self.same(tree, told, [c] + [3] * (many - 1))
                        done = all((c != 0) == (side == 0) for side in sides)
                        self.assertEqual(fault is not None, done and many < 6)

    def test_over_that_is_not_done_does_not_fault(self):
        for sides in itertools.product((0, 1), repeat=3):
            inner = (("over", 0, 1),)
            for side in reversed(sides):
                inner = (("if", 0, inner, ()),) if side == 0 else (("if", 0, (), inner),)
            tree = (2, (("load", 0), ("load", 1)) + inner)
            told = self.flat(tree)
            for cells in itertools.product((0, 1, 5), repeat=2):
                fault = self.same(tree, told, list(cells))
                done = all((cells[0] != 0) == (side == 0) for side in sides)
                self.assertEqual(fault is not None, done and cells[1] == 0)

    def test_ifs_by_unlike_rows(self):
        tree = (3, (("load", 0), ("if", 0, (
            ("load", 1), ("if", 2, (
                ("load", 2), ("if", 4, (("store", 3, 4),), (("over", 2, 4),)), ("store", 4, 4),
            ), (
                ("take", 5, 2, 0), ("put", 6, 0, 2), ("put", 6, 2, 0),
            )),
        ), (
            ("over", 0, 0),
        ))))
        told = self.flat(tree)
        for cells in itertools.product((0, 1, 6), repeat=3):
            for many in (3, 4, 5, 6, 7, 8):
                self.same(tree, told, (list(cells) + [50, 51, 52, 53, 54])[:many])

    def test_by_dice(self):
        dice = random.Random(17)
        seen, refused = set(), 0
        for turn in range(2500):
            tree = any_tree(dice, dice.choice((8, 20)))
            try:
                told = self.flat(tree)
            except TooLong:
                self.assertGreater(many_rows(tree[1]), 8)
                refused += 1
                continue
            for again in range(3):
                fault = self.same(tree, told, any_cells(dice, tree[0], 7))
                seen.add(fault and fault[1])
        self.assertEqual(seen, {None, "beyond", "nought"})
        self.assertLess(refused, 500)

    def test_up_to_eight_rows_are_never_refused(self):
        kinds = [("over", 0, 0), ("take", 9, 0, 0), ("put", 9, 0, 0), ("load", 9), ("store", 9, 0), ("if", 0, (), ())]
        for row, left in itertools.product(kinds, range(7)):
            tree = (1, (("load", 0), ("if", 0, (row,) * left, (row,) * (6 - left))))
            self.assertEqual(many_rows(tree[1]), 8)
            self.flat(tree)
            self.flat((1, (("load", 0), ("if", 0, (("if", 0, (("if", 0, (), ()),), ()),), ())) + (kinds[0],) * 4))
            if row[0] != "if" and left < 4:
                deep = (row,) * left
                for times in range(3):
                    deep = (("if", 0, deep, ()),)
                self.flat((1, (("load", 0),) + deep + (row,) * (4 - left)))
        self.flat((1, (("load", 0),) + (("if", 0, (), ()),) * 7))

    def test_a_long_one_is_refused(self):
        for row in (("over", 0, 0), ("take", 9, 0, 0), ("put", 9, 0, 0)):
            tree = (1, (("load", 0), ("if", 0, (row,) * 9, (row,) * 9)))
            self.assertIs(is_tree(tree), True)
            with self.assertRaises(TooLong):
                flattened(tree)

    def test_just_what_would_have_more_than_forty_rows_is_refused(self):
        # Ahead of all two numbers; a row each of the load and of a load within, two of an if and of an over.
        for loads in range(6):
            tree = (1, (("load", 0), ("if", 0, (("over", 0, 0),) * (18 - loads), (("load", 0),) * loads)))
            if loads == 0:
                with self.assertRaises(TooLong):
                    flattened(tree)
            else:
                block, numbers = self.flat(tree)
                self.assertEqual(len(block[1]), 41 - loads)

    def test_kinds_and_new_lists_each_time(self):
        for tree in (TREE, (5, (("number", 3),))):
            first, second = flattened(tree), flattened(tree)
            self.assertEqual(first, second)
            self.assertIsNot(first[1], second[1])
            first[1].clear()
            self.assertEqual(flattened(tree), second)
            cells = [1, 2, 3, 4, 5]
            one, other = run_tree(tree, cells), run_tree(tree, cells)
            self.assertIsNot(one[0], other[0])
            self.assertIsNot(one[0], cells)
            self.assertEqual(cells, [1, 2, 3, 4, 5])

    def test_what_is_handed_in_stays(self):
        tree = copy.deepcopy(TREE)
        flattened(tree)
        run_tree(tree, [7, 0, 0, 0])
        self.assertEqual(tree, TREE)


def rows_of(rows):
    """All rows by their numbers."""
    found = []
    for row in rows:
        found += [row] + (rows_of(row[2]) + rows_of(row[3]) if row[0] == "if" else [])
    return found


class Refused(unittest.TestCase):
    WRONG = ODD + [
        [0, ()], (0, []), (65, ()), (True, ()), (0, (("if", 0, (), ()),)), (0, (("number", 1), ("if", 0, [], ()))),
        (0, (("number", 1),) * 21), (0, (("number", 1), ("if", 0, (), ()), ("plus", 1, 1))),
    ]

    def test_no_tree(self):
        for thing in self.WRONG:
            with self.assertRaises(NoTree):
                flattened(thing)
            for cells in ([], None, [1000], (1, 2)):
                with self.assertRaises(NoTree):
                    run_tree(thing, cells)

    def test_no_cells(self):
        for sure in (1, 3, 64):
            tree = (sure, (("number", 1), ("if", 0, (), ())))
            self.assertEqual(run_tree(tree, [0] * sure), ([0] * sure, None))
            self.assertEqual(run_tree(tree, [0] * 64), ([0] * 64, None))
            for cells in ([0] * (sure - 1), [0] * 65, (0,) * sure, [1000] * sure, [-1] * sure, [True] * sure):
                with self.assertRaises(NoCells):
                    run_tree(tree, cells)
        for thing in ODD:
            with self.assertRaises(NoCells):
                run_tree((0, ()), [thing] if not isinstance(thing, int) or isinstance(thing, bool) else [1000])
            if not isinstance(thing, list):
                with self.assertRaises(NoCells):
                    run_tree((0, ()), thing)


if __name__ == "__main__":
    unittest.main()

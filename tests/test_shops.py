"""Promise [22] and the interface's part shops, with [1] as far as it speaks of it."""

import copy
import itertools
import random
import unittest

from lanepacks.errors import NoBlock, NoCells, NoLanes, NoName, NoPlan, Nothing, NotValid
from lanepacks.lowering import lowered
from lanepacks.machines import run_program
from lanepacks.plans import is_valid
from lanepacks.running import run
from lanepacks.shops import Shop
from things import NO_BLOCKS, NO_LANES, ODD, all_plans, any_block, is_empty_tuple

# The first two cells are doubled.
TWICE = (2, (("load", 0), ("plus", 0, 0), ("store", 0, 1), ("load", 1), ("plus", 3, 3), ("store", 1, 4)))
TWICE_PLAN = ((0, 3), (1, 4), (2, 5))

# One more is put into the first cell, then the cell 3 is read, which there may not be.
ONE_MORE = (1, (("load", 0), ("number", 1), ("plus", 0, 1), ("store", 0, 2), ("load", 3)))

# The two sums wait for one another by way of row 2.
CROSSED = (1, (("load", 0), ("plus", 0, 0), ("minus", 1, 1), ("plus", 2, 2)))

NO_NAMES = ODD[:5] + ODD[6:] + [
    "", "abcdefghi", "A", "Ab", "a1", "a b", "a-b", " a", "a ", "a\n", "\u00e4", "\u0430", "_", "1", b"ab", ["ab"], ("ab",),
]


def shop_of(cells=(3, 4)):
    """A shop with three blocks, of which `twice` is put side by side."""
    shop = Shop(cells)
    shop.keep("twice", TWICE)
    shop.keep("more", ONE_MORE)
    shop.keep("crossed", CROSSED)
    shop.pack("twice", TWICE_PLAN, lanes=2)
    return shop


SHOP_LOG = [("keep", "twice"), ("keep", "more"), ("keep", "crossed"), ("pack", "twice")]


def seen(shop):
    """All that a shop tells."""
    names = shop.names()
    return (shop.cells(), names, [shop.block(name) for name in names], [shop.plan(name) for name in names], shop.log(),
            len(shop), str(shop))


class Shops(unittest.TestCase):
    def refuses(self, shop, error, call):
        """A call is refused and changes nothing: the error."""
        before = seen(shop)
        with self.assertRaises(error) as caught:
            call(shop)
        self.assertIs(type(caught.exception), error)
        self.assertEqual(seen(shop), before)
        return caught.exception

    def no_name(self, shop, name, call):
        self.assertIs(self.refuses(shop, NoName, call).name, name)


class Made(Shops):
    def test_without_cells(self):
        shop = Shop()
        self.assertEqual(seen(shop), ([], [], [], [], [], 0, ""))

    def test_of_a_list_or_a_tuple(self):
        for cells in ([], (), [0], (999,), [1, 2, 3], (1, 2, 3), [7] * 64, (7,) * 64):
            self.assertEqual(Shop(cells).cells(), list(cells))
            self.assertEqual(Shop(cells=cells).cells(), list(cells))
            self.assertEqual(Shop(cells).log(), [])

    def test_no_cells(self):
        wrong = [[0] * 65, (0,) * 65, [1000], [-1], (1000,), [True], (False,), ["1"], [None], [[1]], "", "ab", {}, {1: 1}]
        wrong += [thing for thing in ODD if not isinstance(thing, (list, tuple))] + [((0,),), 5]
        wrong += [[thing] for thing in ODD] + [(1, thing) for thing in ODD]
        for thing in wrong:
            with self.assertRaises(NoCells):
                Shop(thing)

    def test_the_cells_handed_in_are_not_kept(self):
        cells = [1, 2, 3]
        shop = Shop(cells)
        cells.append(4)
        cells[0] = 9
        self.assertEqual(shop.cells(), [1, 2, 3])
        shop.keep("twice", TWICE)
        shop.run("twice")
        self.assertEqual(cells, [9, 2, 3, 4])


class Keep(Shops):
    def test_ordinary(self):
        shop = Shop([1, 2])
        self.assertIsNone(shop.keep("twice", TWICE))
        self.assertEqual(seen(shop), ([1, 2], ["twice"], [TWICE], [None], [("keep", "twice")], 1, "twice"))
        self.assertIsNone(shop.keep("a", ONE_MORE))
        self.assertEqual(shop.names(), ["a", "twice"])
        self.assertEqual(shop.block("a"), ONE_MORE)
        self.assertEqual(shop.log(), [("keep", "twice"), ("keep", "a")])

    def test_names(self):
        for name in ("a", "z", "az", "abcdefgh", "zzzzzzzz", "q"):
            shop = Shop()
            shop.keep(name, TWICE)
            self.assertEqual(shop.names(), [name])
        for name in NO_NAMES:
            self.no_name(shop_of(), name, lambda shop: shop.keep(name, TWICE))

    def test_no_block(self):
        for thing in NO_BLOCKS:
            self.refuses(shop_of(), NoBlock, lambda shop: shop.keep("twice", thing))
            self.refuses(shop_of(), NoBlock, lambda shop: shop.keep("fresh", thing))

    def test_no_name_comes_first(self):
        for thing in (None, (65, ()), TWICE):
            self.no_name(shop_of(), "Twice", lambda shop: shop.keep("Twice", thing))

    def test_in_the_stead_of_another(self):
        shop = shop_of()
        self.assertEqual(shop.plan("twice"), (2, TWICE_PLAN))
        self.assertIsNone(shop.keep("twice", ONE_MORE))
        self.assertEqual(shop.block("twice"), ONE_MORE)
        self.assertIsNone(shop.plan("twice"))
        self.assertEqual(len(shop), 3)
        self.assertEqual(shop.names(), ["crossed", "more", "twice"])
        self.refuses(shop, NoPlan, lambda shop: shop.run("twice", packed=True))
        self.assertEqual(shop.back(), ("keep", "twice"))
        self.assertEqual(shop.block("twice"), TWICE)
        self.assertEqual(shop.plan("twice"), (2, TWICE_PLAN))

    def test_the_same_block_anew_has_no_plan(self):
        shop = shop_of()
        shop.keep("twice", TWICE)
        self.assertIsNone(shop.plan("twice"))

    def test_the_plans_of_others_stay(self):
        shop = shop_of()
        shop.keep("more", TWICE)
        shop.keep("fresh", TWICE)
        self.assertEqual(shop.plan("twice"), (2, TWICE_PLAN))


class Pack(Shops):
    def test_ordinary(self):
        shop = Shop([1, 2])
        shop.keep("twice", TWICE)
        self.assertIsNone(shop.pack("twice", TWICE_PLAN, lanes=2))
        self.assertEqual(shop.plan("twice"), (2, TWICE_PLAN))
        self.assertIs(type(shop.plan("twice")), tuple)
        self.assertEqual(shop.log(), [("keep", "twice"), ("pack", "twice")])
        self.assertEqual(shop.cells(), [1, 2])
        # Another plan in its stead.
        self.assertIsNone(shop.pack("twice", (), lanes=4))
        self.assertEqual(shop.plan("twice"), (4, ()))
        self.assertEqual(shop.back(), ("pack", "twice"))
        self.assertEqual(shop.plan("twice"), (2, TWICE_PLAN))

    def test_lanes_are_handed_in_by_name_alone(self):
        shop = shop_of()
        with self.assertRaises(TypeError):
            shop.pack("twice", TWICE_PLAN, 2)
        with self.assertRaises(TypeError):
            shop.pack("twice", TWICE_PLAN)

    def test_no_name(self):
        for name in NO_NAMES + ["fresh", "twic", "twicee", "b"]:
            for plan, lanes in ((TWICE_PLAN, 2), (None, 5)):
                self.no_name(shop_of(), name, lambda shop: shop.pack(name, plan, lanes=lanes))

    def test_no_lanes(self):
        for lanes in NO_LANES:
            for plan in ((), TWICE_PLAN, None):
                self.refuses(shop_of(), NoLanes, lambda shop: shop.pack("twice", plan, lanes=lanes))

    def test_no_plan(self):
        wrong = [[], [(0, 3)], ([0, 3],), ((3, 0),), ((0, 3), (0, 3)), ((1, 4), (0, 3)), ((0, 1),), ((0, 3, 6),), (0, 3)]
        for thing in wrong + [thing for thing in ODD if not is_empty_tuple(thing)]:
            self.refuses(shop_of(), NoPlan, lambda shop: shop.pack("twice", thing, lanes=2))
        self.refuses(shop_of(), NoPlan, lambda shop: shop.pack("twice", TWICE_PLAN, lanes=3))
        # A plan of another block.
        self.refuses(shop_of(), NoPlan, lambda shop: shop.pack("more", TWICE_PLAN, lanes=2))

    def test_not_valid(self):
        plan = ((1, 3),)
        caught = self.refuses(shop_of(), NotValid, lambda shop: shop.pack("crossed", plan, lanes=2))
        self.assertIs(caught.packs, plan)
        self.refuses(shop_of(), NoPlan, lambda shop: shop.pack("crossed", plan + plan, lanes=2))


class Run(Shops):
    def test_ordinary(self):
        shop = shop_of()
        self.assertIsNone(shop.run("twice"))
        self.assertEqual(shop.cells(), [6, 8])
        self.assertEqual(shop.log(), SHOP_LOG + [("run", "twice", False)])
        self.assertIsNone(shop.run("twice", packed=True))
        self.assertEqual(shop.cells(), [12, 16])
        self.assertEqual(shop.log()[-1], ("run", "twice", True))
        self.assertIsNone(shop.run("twice", packed=False))
        self.assertEqual(shop.log()[-1], ("run", "twice", False))
        self.assertEqual(shop.names(), ["crossed", "more", "twice"])

    def test_up_to_a_fault(self):
        shop = shop_of()
        self.assertEqual(shop.run("more"), (4, "beyond"))
        self.assertEqual(shop.cells(), [4, 4])
        self.assertEqual(shop.log(), SHOP_LOG + [("run", "more", False)])
        shop.grow([0, 0])
        self.assertIsNone(shop.run("more"))
        self.assertEqual(shop.cells(), [5, 4, 0, 0])

    def test_the_fault_of_its_program(self):
        loads = (1, (("load", 0), ("store", 1, 0), ("load", 2), ("load", 3)))
        shop = Shop([7, 0, 0])
        shop.keep("loads", loads)
        shop.pack("loads", ((2, 3),), lanes=2)
        program, entries = lowered(loads, 2, ((2, 3),))
        self.assertEqual(shop.run("loads"), (3, "beyond"))
        self.assertEqual(shop.run("loads", packed=True), entries[3] + ("beyond",))
        self.assertEqual(entries[3][1], 1)
        self.assertEqual(shop.cells(), [7, 7, 0])
        # Of a row alone.
        shop.pack("loads", (), lanes=3)
        self.assertEqual(shop.run("loads", packed=True)[1:], (None, "beyond"))

    def test_packed_is_handed_in_by_name_alone(self):
        shop = shop_of()
        with self.assertRaises(TypeError):
            shop.run("twice", True)
        with self.assertRaises(TypeError):
            shop.together(["twice"], True)

    def test_no_name(self):
        for name, packed in itertools.product(NO_NAMES + ["fresh", "twic"], (False, True)):
            self.no_name(shop_of(()), name, lambda shop: shop.run(name, packed=packed))

    def test_no_cells(self):
        for cells in ((), (1,)):
            self.refuses(shop_of(cells), NoCells, lambda shop: shop.run("twice"))
            self.refuses(shop_of(cells), NoCells, lambda shop: shop.run("twice", packed=True))
        self.assertIsNone(shop_of((1, 2)).run("twice"))
        self.assertIsNone(shop_of((1, 2, 3)).run("twice", packed=True))

    def test_no_plan(self):
        self.refuses(shop_of(), NoPlan, lambda shop: shop.run("more", packed=True))
        # Too few cells come first.
        self.refuses(shop_of(()), NoCells, lambda shop: shop.run("more", packed=True))
        # The plan without packs is a plan.
        shop = shop_of((1, 2, 3, 4))
        shop.pack("more", (), lanes=2)
        self.assertIsNone(shop.run("more", packed=True))
        self.assertEqual(shop.cells(), [2, 2, 3, 4])

    def test_packed_does_the_same(self):
        dice = random.Random(22)
        faults = set()
        for turn in range(300):
            block = any_block(dice, 7)
            lanes = dice.choice((2, 3))
            plan = dice.choice([plan for plan in all_plans(block, lanes) if is_valid(block, lanes, plan)])
            program, entries = lowered(block, lanes, plan)
            cells = [dice.randint(0, 2) for cell in range(dice.randint(block[0], 8))]
            one, other = Shop(cells), Shop(tuple(cells))
            for shop in (one, other):
                shop.keep("b", block)
                shop.pack("b", plan, lanes=lanes)
            self.assertEqual(one.run("b"), run(block, cells)[1])
            self.assertEqual(other.run("b", packed=True), run_program(program, cells)[1])
            self.assertEqual(one.cells(), run(block, cells)[0])
            self.assertEqual(one, other)
            faults.add(run(block, cells)[1] and run(block, cells)[1][1])
        self.assertEqual(faults, {None, "beyond", "nought"})


class Together(Shops):
    def test_ordinary(self):
        shop = shop_of()
        faults = shop.together(["twice", "more", "twice"])
        self.assertIs(type(faults), list)
        self.assertEqual(faults, [None, (4, "beyond"), None])
        self.assertEqual(shop.cells(), [14, 16])
        self.assertEqual(shop.log(), SHOP_LOG + [("together", ("twice", "more", "twice"), False)])

    def test_one_call(self):
        shop = shop_of()
        shop.together(["twice", "twice", "more"])
        self.assertEqual(shop.back(), ("together", ("twice", "twice", "more"), False))
        self.assertEqual(shop.cells(), [3, 4])
        self.assertEqual(shop.log(), SHOP_LOG)

    def test_no_names(self):
        shop = shop_of()
        self.assertEqual(shop.together([]), [])
        self.assertEqual(shop.log(), SHOP_LOG + [("together", (), False)])
        self.assertEqual(shop.together([], packed=True), [])
        self.assertEqual(shop.back(), ("together", (), True))
        self.assertEqual(shop.cells(), [3, 4])

    def test_packed(self):
        shop = shop_of()
        self.assertEqual(shop.together(["twice", "twice"], packed=True), [None, None])
        self.assertEqual(shop.cells(), [12, 16])
        self.assertEqual(shop.log()[-1], ("together", ("twice", "twice"), True))

    def test_the_same_as_run_by_run(self):
        one, other = shop_of((1, 2, 3, 4)), shop_of((1, 2, 3, 4))
        names = ["more", "twice", "crossed", "more"]
        self.assertEqual(one.together(names), [other.run(name) for name in names])
        self.assertEqual(one, other)

    def test_no_list(self):
        for thing in [thing for thing in ODD if not isinstance(thing, list)] + [("twice",), "twice", {"twice": 1}, None]:
            self.no_name(shop_of(), thing, lambda shop: shop.together(thing))
            self.no_name(shop_of(), thing, lambda shop: shop.together(thing, packed=True))

    def test_where_a_later_one_is_refused(self):
        for name in NO_NAMES + ["fresh"]:
            self.no_name(shop_of(), name, lambda shop: shop.together(["twice", "more", name]))
            self.no_name(shop_of(), name, lambda shop: shop.together([name, "twice"]))
        self.refuses(shop_of(), NoPlan, lambda shop: shop.together(["twice", "more"], packed=True))
        self.refuses(shop_of((1,)), NoCells, lambda shop: shop.together(["more", "more", "twice"]))

    def test_the_first_that_would_be_refused(self):
        self.no_name(shop_of((1,)), "fresh", lambda shop: shop.together(["more", "fresh", "twice", "none"]))
        self.refuses(shop_of((1,)), NoCells, lambda shop: shop.together(["more", "twice", "fresh"]))
        self.refuses(shop_of(), NoPlan, lambda shop: shop.together(["twice", "more", "fresh"], packed=True))
        self.refuses(shop_of((1,)), NoCells, lambda shop: shop.together(["twice", "more"], packed=True))
        self.refuses(shop_of((1,)), NoPlan, lambda shop: shop.together(["more", "twice"], packed=True))

    def test_the_list_handed_in_is_not_kept(self):
        shop, names = shop_of(), ["twice"]
        faults = shop.together(names)
        self.assertEqual(names, ["twice"])
        names.append("more")
        faults.append(1)
        self.assertEqual(shop.log()[-1], ("together", ("twice",), False))


class Drop(Shops):
    def test_ordinary(self):
        shop = shop_of()
        self.assertIsNone(shop.drop("twice"))
        self.assertEqual(shop.names(), ["crossed", "more"])
        self.assertEqual(len(shop), 2)
        self.assertEqual(shop.log(), SHOP_LOG + [("drop", "twice")])
        for call in (shop.block, shop.plan, shop.run, shop.drop):
            with self.assertRaises(NoName):
                call("twice")
        self.assertEqual(shop.back(), ("drop", "twice"))
        self.assertEqual(shop.block("twice"), TWICE)
        self.assertEqual(shop.plan("twice"), (2, TWICE_PLAN))

    def test_kept_again_it_has_no_plan(self):
        shop = shop_of()
        shop.drop("twice")
        shop.keep("twice", TWICE)
        self.assertIsNone(shop.plan("twice"))

    def test_no_name(self):
        for name in NO_NAMES + ["fresh"]:
            self.no_name(shop_of(), name, lambda shop: shop.drop(name))


class Grow(Shops):
    def test_ordinary(self):
        shop = shop_of()
        self.assertEqual(shop.grow([5, 0, 999]), 5)
        self.assertEqual(shop.cells(), [3, 4, 5, 0, 999])
        self.assertEqual(shop.log(), SHOP_LOG + [("grow", 3)])
        self.assertEqual(shop.grow([]), 5)
        self.assertEqual(shop.log(), SHOP_LOG + [("grow", 3), ("grow", 0)])
        self.assertEqual(shop.back(), ("grow", 0))
        self.assertEqual(shop.back(), ("grow", 3))
        self.assertEqual(shop.cells(), [3, 4])

    def test_up_to_64(self):
        shop = Shop([1] * 60)
        self.refuses(shop, NoCells, lambda shop: shop.grow([0] * 5))
        self.assertEqual(shop.grow([0] * 4), 64)
        self.refuses(shop, NoCells, lambda shop: shop.grow([0]))
        self.assertEqual(shop.grow([]), 64)
        self.assertEqual(Shop().grow([2] * 64), 64)
        self.refuses(Shop(), NoCells, lambda shop: shop.grow([2] * 65))

    def test_no_cells(self):
        wrong = [thing for thing in ODD if not isinstance(thing, list)] + [(1,), (1, 2), "12", 5, [1000], [-1], [1, True]]
        for thing in wrong + [[1, thing] for thing in ODD]:
            self.refuses(shop_of(), NoCells, lambda shop: shop.grow(thing))

    def test_the_list_handed_in_is_not_kept(self):
        shop, words = Shop(), [1, 2]
        shop.grow(words)
        words.append(3)
        self.assertEqual(shop.cells(), [1, 2])
        shop.cells().append(9)
        self.assertEqual(words, [1, 2, 3])


class Back(Shops):
    def calls(self):
        """Each call with what it is in the log."""
        return [
            (lambda shop: shop.keep("fresh", TWICE), ("keep", "fresh")),
            (lambda shop: shop.keep("twice", ONE_MORE), ("keep", "twice")),
            (lambda shop: shop.pack("more", (), lanes=3), ("pack", "more")),
            (lambda shop: shop.pack("twice", (), lanes=3), ("pack", "twice")),
            (lambda shop: shop.run("twice"), ("run", "twice", False)),
            (lambda shop: shop.run("twice", packed=True), ("run", "twice", True)),
            (lambda shop: shop.run("more"), ("run", "more", False)),
            (lambda shop: shop.together(["more", "twice"]), ("together", ("more", "twice"), False)),
            (lambda shop: shop.together(["twice"], packed=True), ("together", ("twice",), True)),
            (lambda shop: shop.drop("twice"), ("drop", "twice")),
            (lambda shop: shop.grow([1, 2]), ("grow", 2)),
        ]

    def test_behind_each_call(self):
        for call, told in self.calls():
            shop = shop_of()
            before = seen(shop)
            call(shop)
            self.assertEqual(shop.log(), SHOP_LOG + [told])
            self.assertNotEqual(seen(shop), before)
            self.assertEqual(shop.back(), told)
            self.assertEqual(seen(shop), before)

    def test_to_the_first_and_one_more(self):
        shop = shop_of()
        pasts = [seen(shop)]
        for call, told in self.calls()[2:9] + self.calls()[10:]:
            call(shop)
            pasts.append(seen(shop))
        for past in pasts[-2::-1]:
            shop.back()
            self.assertEqual(seen(shop), past)
        for told in reversed(SHOP_LOG):
            self.assertEqual(shop.back(), told)
        self.assertEqual(seen(shop), ([3, 4], [], [], [], [], 0, ""))
        for again in range(2):
            self.refuses(shop, Nothing, lambda shop: shop.back())
        self.refuses(Shop(), Nothing, lambda shop: shop.back())

    def test_what_is_done_behind_it(self):
        shop = shop_of()
        shop.run("twice")
        shop.back()
        shop.run("more")
        self.assertEqual(shop.log(), SHOP_LOG + [("run", "more", False)])
        self.assertEqual(shop.cells(), [4, 4])
        self.assertEqual(shop.back(), ("run", "more", False))
        self.assertEqual(shop.back(), ("pack", "twice"))

    def test_what_is_refused_is_not_taken_back(self):
        shop = shop_of()
        shop.run("twice")
        for call in (lambda: shop.run("fresh"), lambda: shop.grow(None), lambda: shop.together(["twice", "fresh"])):
            with self.assertRaises((NoName, NoCells)):
                call()
        self.assertEqual(shop.back(), ("run", "twice", False))

    def test_what_only_tells_is_no_call(self):
        shop = shop_of()
        seen(shop)
        shop.twin()
        self.assertEqual(shop, shop_of())
        self.assertEqual(shop.log(), SHOP_LOG)

    def test_the_log_has_tuples(self):
        shop = shop_of()
        for call, told in self.calls()[4:]:
            call(shop)
            self.assertEqual(shop.log()[-1], told)
            self.assertIs(type(shop.log()[-1]), tuple)
            shop.back()


class Told(Shops):
    def test_names_rise(self):
        shop = Shop()
        for name in ("m", "b", "zz", "a", "ab", "z"):
            shop.keep(name, (0, ()))
        self.assertEqual(shop.names(), ["a", "ab", "b", "m", "z", "zz"])
        self.assertEqual(str(shop), "a ab b m z zz")
        self.assertEqual(len(shop), 6)

    def test_len_and_str(self):
        self.assertEqual((len(Shop()), str(Shop())), (0, ""))
        self.assertEqual((len(shop_of()), str(shop_of())), (3, "crossed more twice"))

    def test_no_name(self):
        for name in NO_NAMES + ["fresh"]:
            self.no_name(shop_of(), name, lambda shop: shop.block(name))
            self.no_name(shop_of(), name, lambda shop: shop.plan(name))

    def test_lists_told_that_are_changed_by_who_asked(self):
        shop = shop_of()
        before = seen(shop)
        for told in (shop.cells(), shop.names(), shop.log()):
            self.assertIs(type(told), list)
            told.append(1)
            told[0] = 7
        self.assertEqual(seen(shop), before)
        shop.run("twice")
        told = shop.cells()
        told.clear()
        self.assertEqual(shop.cells(), [6, 8])
        shop.back()
        self.assertEqual(seen(shop), before)

    def test_the_same_calls_tell_the_same(self):
        self.assertEqual(seen(shop_of()), seen(shop_of()))


class Twin(Shops):
    def test_it_has_the_same_and_nothing_was_done_with_it(self):
        shop = shop_of()
        twin = shop.twin()
        self.assertIs(type(twin), Shop)
        self.assertIsNot(twin, shop)
        self.assertEqual(seen(twin)[:4], seen(shop)[:4])
        self.assertEqual(twin.log(), [])
        self.refuses(twin, Nothing, lambda shop: shop.back())
        self.assertEqual(twin, shop)

    def test_what_the_one_does_is_none_of_the_others(self):
        for call in [
            lambda shop: shop.keep("fresh", TWICE), lambda shop: shop.keep("twice", ONE_MORE), lambda shop: shop.drop("twice"),
            lambda shop: shop.pack("twice", (), lanes=2), lambda shop: shop.run("twice"), lambda shop: shop.grow([1]),
            lambda shop: shop.together(["more", "twice"]),
        ]:
            for turned in (False, True):
                one = shop_of()
                other = one.twin()
                if turned:
                    one, other = other, one
                before = seen(other)
                call(one)
                self.assertEqual(seen(other), before)
                self.assertNotEqual(one, other)
                one.back()
                self.assertEqual(seen(other), before)
                self.assertEqual(one, other)

    def test_the_first_is_taken_back_as_ever(self):
        shop = shop_of()
        twin = shop.twin()
        for told in reversed(SHOP_LOG):
            self.assertEqual(shop.back(), told)
        self.assertEqual(len(shop), 0)
        self.assertEqual(len(twin), 3)

    def test_a_twin_of_a_twin(self):
        twin = shop_of().twin()
        twin.run("twice")
        other = twin.twin()
        self.assertEqual(other.cells(), [6, 8])
        self.assertEqual(other.log(), [])
        self.assertEqual(twin.log(), [("run", "twice", False)])


class Equal(Shops):
    def test_whatever_was_done(self):
        one, other = shop_of(), Shop([3])
        self.assertNotEqual(one, other)
        other.keep("crossed", CROSSED)
        other.keep("more", TWICE)
        other.grow([4])
        other.keep("more", ONE_MORE)
        other.keep("twice", TWICE)
        self.assertNotEqual(one, other)
        other.pack("twice", (), lanes=2)
        self.assertNotEqual(one, other)
        other.pack("twice", TWICE_PLAN, lanes=2)
        self.assertNotEqual(one.log(), other.log())
        self.assertIs(one == other, True)
        self.assertIs(one != other, False)
        self.assertIs(one == one, True)
        self.assertIs(Shop() == Shop(), True)
        self.assertIs(Shop([1]) == Shop((1,)), True)

    def test_each_thing_counts(self):
        shop = shop_of()
        for call in [
            lambda other: other.keep("fresh", TWICE), lambda other: other.keep("more", TWICE), lambda other: other.drop("more"),
            lambda other: other.pack("more", (), lanes=2), lambda other: other.pack("twice", TWICE_PLAN[:2], lanes=2),
            lambda other: other.grow([0]), lambda other: other.run("twice"), lambda other: other.keep("twice", TWICE),
        ]:
            other = shop_of()
            call(other)
            self.assertIs(shop == other, False)
            self.assertIs(other == shop, False)
            self.assertIs(shop != other, True)
        self.assertIs(Shop([1, 2]) == Shop([2, 1]), False)
        self.assertIs(Shop() == Shop([0]), False)

    def test_blocks_by_other_names(self):
        one, other = Shop(), Shop()
        one.keep("a", TWICE)
        other.keep("b", TWICE)
        self.assertIs(one == other, False)
        one.keep("b", ONE_MORE)
        other.keep("a", ONE_MORE)
        self.assertIs(one == other, False)

    def test_a_shop_equals_nothing_else(self):
        for shop in (Shop(), shop_of()):
            for thing in ODD + [seen(shop), shop.cells(), str(shop), len(shop), Shop]:
                self.assertIs(shop == thing, False)
                self.assertIs(shop != thing, True)


class ByDice(Shops):
    """Many calls, with a copy of all that a shop told ahead of each one."""

    def step(self, dice, shop):
        name = dice.choice(("a", "b", "c", "d", "E"))
        way = dice.randrange(7)
        if way == 0:
            return shop.keep(name, dice.choice((TWICE, ONE_MORE, CROSSED, (65, ()))))
        if way == 1:
            return shop.pack(name, dice.choice((TWICE_PLAN, (), ((1, 3),), TWICE_PLAN[:1])), lanes=dice.choice((2, 2, 2, 3, 5)))
        if way == 2:
            return shop.run(name, packed=dice.choice((False, True)))
        if way == 3:
            names = [dice.choice("abc") for times in range(dice.randint(0, 3))]
            return shop.together(names, packed=dice.choice((False, False, True)))
        if way == 4 and dice.random() < 0.3:
            return shop.drop(name)
        return shop.grow([dice.randint(0, 999) for cell in range(dice.randint(0, 3))])

    def test_calls_and_back(self):
        dice = random.Random(23)
        refused, taken = 0, 0
        for turn in range(40):
            shop, pasts = Shop([1] * dice.randint(0, 3)), []
            for times in range(60):
                before = copy.deepcopy(seen(shop))
                if pasts and dice.random() < 0.25:
                    self.assertEqual(shop.back(), before[4][-1])
                    self.assertEqual(seen(shop), pasts.pop())
                    taken += 1
                    continue
                try:
                    self.step(dice, shop)
                except (NoName, NoBlock, NoLanes, NoPlan, NotValid, NoCells):
                    self.assertEqual(seen(shop), before)
                    refused += 1
                else:
                    pasts.append(before)
                    self.assertEqual(shop.log()[:-1], before[4])
            while pasts:
                shop.back()
                self.assertEqual(seen(shop), pasts.pop())
            self.refuses(shop, Nothing, lambda shop: shop.back())
        self.assertGreater(refused, 200)
        self.assertGreater(taken, 200)


if __name__ == "__main__":
    unittest.main()

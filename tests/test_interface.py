"""The interface: each name, with its arguments and defaults as they stand; and [1] over the whole program."""

import importlib
import inspect
import unittest

from lanepacks import blocks, blocktexts, errors, finding, loops, lowering, machines, needs, orders, plans, running, sheets
from lanepacks import trees
from lanepacks.shops import Shop
from things import ODD

FUNCTIONS = {
    "words": {"done": "(deed, words)"},
    "blocks": {"is_block": "(thing)", "makes": "(block, row)", "named": "(block, row)"},
    "running": {"run": "(block, cells)", "values": "(block, cells)"},
    "orders": {"may_fault": "(block, row)", "must": "(block)", "ahead": "(block, row)"},
    "plans": {
        "is_plan": "(block, lanes, thing)", "is_valid": "(block, lanes, plan)", "order": "(block, lanes, plan)",
        "cost": "(block, lanes, plan)",
    },
    "machines": {"is_program": "(thing)", "run_program": "(program, cells)", "cost_of": "(program)"},
    "lowering": {"lowered": "(block, lanes, plan)"},
    "sheets": {"traced": "(program, row, lane=None)", "shows": "(block, program, thing)"},
    "finding": {"packs": "(block, lanes)", "found_plan": "(block, *, lanes=4)", "best_plan": "(block, *, lanes=2)"},
    "needs": {"needless": "(block)", "pruned": "(block)"},
    "trees": {"is_tree": "(thing)", "run_tree": "(tree, cells)", "flattened": "(tree)"},
    "loops": {
        "is_loop": "(thing)", "run_loop": "(loop, cells)", "unrolled": "(loop)", "turn_plan": "(loop, *, lanes=4)",
        "reach": "(loop)",
    },
    "blocktexts": {"shown": "(block)", "read": "(text)", "shown_plan": "(plan)", "read_plan": "(text, lanes)"},
}

METHODS = {
    "__init__": "(self, cells=())", "keep": "(self, name, block)", "pack": "(self, name, plan, *, lanes)",
    "run": "(self, name, *, packed=False)", "together": "(self, names, *, packed=False)", "drop": "(self, name)",
    "grow": "(self, words)", "back": "(self)", "cells": "(self)", "names": "(self)", "block": "(self, name)",
    "plan": "(self, name)", "log": "(self)", "twin": "(self)",
}

# A block of each kind of row, with what else the calls below are handed.
BLOCK = (3, (
    ("load", 0), ("load", 1), ("number", 2), ("plus", 0, 2), ("plus", 1, 2), ("store", 1, 3), ("store", 2, 4), ("over", 0, 2),
))
PLAN = ((0, 1), (3, 4), (5, 6))
PROGRAM, SHEET = lowering.lowered(BLOCK, 2, PLAN)
TREE = (1, (("load", 0), ("if", 0, (("store", 0, 0),), (("load", 3),))))
LOOP = (1, 2, (("last", 1, 3), ("load", (0, 1)), ("store", (2, 1), 0)))

CALLS = [
    (blocks.is_block, (BLOCK,)), (blocks.makes, (BLOCK, 3)), (blocks.named, (BLOCK, 3)),
    (running.run, (BLOCK, [1, 2, 3])), (running.values, (BLOCK, [1, 2, 3])),
    (orders.may_fault, (BLOCK, 7)), (orders.must, (BLOCK,)), (orders.ahead, (BLOCK, 6)),
    (plans.is_plan, (BLOCK, 2, PLAN)), (plans.is_valid, (BLOCK, 2, PLAN)), (plans.order, (BLOCK, 2, PLAN)),
    (plans.cost, (BLOCK, 2, PLAN)),
    (machines.is_program, (PROGRAM,)), (machines.run_program, (PROGRAM, [1, 2, 3])), (machines.cost_of, (PROGRAM,)),
    (lowering.lowered, (BLOCK, 2, PLAN)), (sheets.traced, (PROGRAM, 0, 1)), (sheets.shows, (BLOCK, PROGRAM, SHEET)),
    (finding.packs, (BLOCK, 2)), (finding.found_plan, (BLOCK,)), (finding.best_plan, (BLOCK,)),
    (needs.needless, (BLOCK,)), (needs.pruned, (BLOCK,)),
    (trees.is_tree, (TREE,)), (trees.run_tree, (TREE, [1, 2])), (trees.flattened, (TREE,)),
    (loops.is_loop, (LOOP,)), (loops.run_loop, (LOOP, [1, 2, 3])), (loops.unrolled, (LOOP,)),
    (loops.turn_plan, (LOOP,)), (loops.reach, (LOOP,)),
    (blocktexts.shown, (BLOCK,)), (blocktexts.read, ("sure 2; load 0",)), (blocktexts.shown_plan, (PLAN,)),
    (blocktexts.read_plan, ("0+1", 2)),
]


def lists_in(thing):
    """All lists within lists and tuples."""
    if not isinstance(thing, (list, tuple)):
        return []
    return ([thing] if isinstance(thing, list) else []) + [found for part in thing for found in lists_in(part)]


def other_copy(thing):
    """An equal thing that shares no list or tuple with it."""
    if isinstance(thing, list):
        return [other_copy(part) for part in thing]
    return tuple([other_copy(part) for part in thing]) if isinstance(thing, tuple) else thing


class Names(unittest.TestCase):
    def test_functions(self):
        for module, functions in FUNCTIONS.items():
            for name, arguments in functions.items():
                function = getattr(importlib.import_module(f"lanepacks.{module}"), name)
                self.assertEqual(str(inspect.signature(function)), arguments, name)
                self.assertEqual(function.__module__, f"lanepacks.{module}")

    def test_methods(self):
        for name, arguments in METHODS.items():
            self.assertEqual(str(inspect.signature(getattr(Shop, name))), arguments, name)

    def test_each_function_is_called_below(self):
        called = {call.__name__ for call, given in CALLS} | {"done"}
        self.assertEqual(called, {name for functions in FUNCTIONS.values() for name in functions})


class WholeProgram(unittest.TestCase):
    def test_nothing_handed_in_is_changed(self):
        for call, given in CALLS:
            copied = other_copy(given)
            call(*copied)
            self.assertEqual(copied, given, call.__name__)

    def test_lists_told_are_new_ones_each_time(self):
        for call, given in CALLS:
            first, second = call(*given), call(*given)
            self.assertEqual(first, second, call.__name__)
            handed = {id(one) for one in lists_in(given)}
            told = lists_in(first) + lists_in(second)
            self.assertEqual(len({id(one) for one in told} - handed), len(told), call.__name__)

    def test_equal_things_give_equal_answers(self):
        for call, given in CALLS:
            self.assertEqual(call(*other_copy(given)), call(*given), call.__name__)
            self.assertIs(type(call(*other_copy(given))), type(call(*given)))

    def test_a_thing_of_any_kind_is_refused_or_told_false(self):
        for call, given in CALLS:
            for thing in ODD + [Shop(), Shop([1])]:
                if call.__name__.startswith("is_") and len(given) == 1:
                    self.assertIs(call(thing), False)
                    continue
                # The plan without packs, and its text.
                if call.__name__ in ("shown_plan", "read_plan") and isinstance(thing, (tuple, str)) and len(thing) == 0:
                    continue
                with self.assertRaises(errors.PackError, msg=call.__name__):
                    call(thing, *given[1:])

    def test_each_thing_that_is_handed_in_may_be_of_any_kind(self):
        for call, given in CALLS:
            for at in range(1, len(given)):
                for thing in ODD + [Shop()]:
                    try:
                        call(*given[:at], thing, *given[at + 1:])
                    except errors.PackError:
                        pass


if __name__ == "__main__":
    unittest.main()

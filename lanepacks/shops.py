"""A shop that keeps blocks, plans and cells over many calls."""

from lanepacks.blocks import is_block
from lanepacks.errors import NoBlock, NoCells, NoName, NoPlan, NotValid, Nothing
from lanepacks.lowering import lowered
from lanepacks.machines import run_program
from lanepacks.plans import check_plan, ordered
from lanepacks.running import MOST_CELLS, do_rows, is_cells

LETTERS = "abcdefghijklmnopqrstuvwxyz"
MOST_LETTERS = 8


def is_name(thing):
    """Whether a thing of any kind is a name."""
    if not isinstance(thing, str) or not 1 <= len(thing) <= MOST_LETTERS:
        return False
    return all([sign in LETTERS for sign in thing])


def with_entry(table, name, thing):
    """A new dict with a thing by a name."""
    grown = dict(table)
    grown[name] = thing
    return grown


def without_entry(table, name):
    """A new dict without what it may have by a name."""
    return {key: table[key] for key in table if key != name}


class Shop:
    """Cells, blocks by names and their plans, and the calls that were done with them.

    The list of cells and the dicts of blocks and plans are never changed, but exchanged for new
    ones: so those that were there ahead of a call are still there to be taken back.
    """

    def __init__(self, cells=()):
        if not isinstance(cells, (list, tuple)) or not is_cells(list(cells), 0):
            raise NoCells("these are no cells for a shop")
        self.held = list(cells)
        self.kept = {}
        self.sided = {}
        self.history = []

    def known(self, name):
        """The block that is kept by a name."""
        if not is_name(name) or name not in self.kept:
            raise NoName(name)
        return self.kept[name]

    def settle(self, call, held, kept, sided):
        """Ends a call that is not refused: what the shop has from now on."""
        self.history.append((call, self.held, self.kept, self.sided))
        self.held = held
        self.kept = kept
        self.sided = sided

    def keep(self, name, block):
        """Keeps a block by a name, in the stead of one that was kept by it and its plan."""
        if not is_name(name):
            raise NoName(name)
        if not is_block(block):
            raise NoBlock("this is no block")
        kept = with_entry(self.kept, name, block)
        self.settle(("keep", name), self.held, kept, without_entry(self.sided, name))

    def pack(self, name, plan, *, lanes):
        """Puts a block side by side."""
        block = self.known(name)
        check_plan(block, lanes, plan)
        if ordered(block, plan) is None:
            raise NotValid(plan)
        self.settle(("pack", name), self.held, self.kept, with_entry(self.sided, name, (lanes, plan)))

    def outcome(self, name, packed, cells):
        """The tuple (new list of cells then, fault) of a block, or its program, on cells."""
        block = self.known(name)
        if len(cells) < block[0]:
            raise NoCells("the shop has fewer cells than are sure")
        if not packed:
            then = list(cells)
            words, fault = do_rows(block[1], then)
            return (then, fault)
        if name not in self.sided:
            raise NoPlan("the block has no plan")
        lanes, plan = self.sided[name]
        program, entries = lowered(block, lanes, plan)
        return run_program(program, cells)

    def run(self, name, *, packed=False):
        """Runs a block, or, packed, its program, on the shop's cells: the fault."""
        then, fault = self.outcome(name, packed, self.held)
        self.settle(("run", name, packed), then, self.kept, self.sided)
        return fault

    def together(self, names, *, packed=False):
        """Runs those of a list of names, one behind the other, as one call: the new list of the faults."""
        if not isinstance(names, list):
            raise NoName(names)
        then = self.held
        faults = []
        for name in names:
            then, fault = self.outcome(name, packed, then)
            faults.append(fault)
        self.settle(("together", tuple(names), packed), then, self.kept, self.sided)
        return faults

    def drop(self, name):
        """Keeps a block no more."""
        self.known(name)
        kept = without_entry(self.kept, name)
        self.settle(("drop", name), self.held, kept, without_entry(self.sided, name))

    def grow(self, words):
        """Puts a list of words behind the cells: how many cells there are."""
        if not is_cells(words, 0) or len(self.held) + len(words) > MOST_CELLS:
            raise NoCells("these are no words, or too many")
        self.settle(("grow", len(words)), self.held + words, self.kept, self.sided)
        return len(self.held)

    def back(self):
        """Takes back the last call that was done and not taken back: that call."""
        if len(self.history) == 0:
            raise Nothing("there is nothing to be taken back")
        call, held, kept, sided = self.history.pop()
        self.held = held
        self.kept = kept
        self.sided = sided
        return call

    def cells(self):
        """The new list of the cells."""
        return list(self.held)

    def names(self):
        """The new rising list of the names."""
        return sorted(self.kept)

    def block(self, name):
        """The block that is kept by a name."""
        return self.known(name)

    def plan(self, name):
        """The tuple (lanes, plan) of the block that is kept by a name, or None."""
        self.known(name)
        return self.sided.get(name)

    def log(self):
        """The new list of the calls that are done and not taken back."""
        return [past[0] for past in self.history]

    def twin(self):
        """A new shop that has the same, and with which nothing was done."""
        other = Shop(self.held)
        other.kept = dict(self.kept)
        other.sided = dict(self.sided)
        return other

    def __eq__(self, other):
        if not isinstance(other, Shop):
            return False
        return self.held == other.held and self.kept == other.kept and self.sided == other.sided

    def __len__(self):
        return len(self.kept)

    def __str__(self):
        return " ".join(self.names())

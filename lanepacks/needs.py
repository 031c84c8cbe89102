"""Rows of a block that need not be, and the block without them."""

from lanepacks.blocks import is_block, names_of, with_names
from lanepacks.errors import NoBlock
from lanepacks.orders import can_fault, writes


def needed_rows(block):
    """The new rising list of the rows that are not needless."""
    if not is_block(block):
        raise NoBlock("this is no block")
    rows = block[1]
    needed = {}
    # Downwards: by then it is settled of all rows that may name this one.
    for at in reversed(range(len(rows))):
        if at in needed or writes(rows[at]) or can_fault(block, at):
            needed[at] = True
            needed.update({name: True for name in names_of(rows[at])})
    return sorted(needed)


def needless(block):
    """The new rising list of the needless rows."""
    needed = needed_rows(block)
    return [row for row in range(len(block[1])) if row not in needed]


def pruned(block):
    """The tuple (the block without its needless rows, new list with each row's number there)."""
    needed = needed_rows(block)
    number_of = {row: number for number, row in enumerate(needed)}
    sure, rows = block
    left = [with_names(rows[at], [number_of[name] for name in names_of(rows[at])]) for at in needed]
    return ((sure, tuple(left)), [number_of.get(at) for at in range(len(rows))])

"""Which rows of a block may fault, and which must stay ahead of which."""

from lanepacks.blocks import WRITERS, is_block, names_of, place_of, row_at
from lanepacks.errors import NoBlock


def writes(row):
    """Whether a row, itself in the stead of its number, writes a cell."""
    return row[0] in WRITERS


def is_safe_number(row):
    """Whether a row is a number row by which over never faults."""
    return row[0] == "number" and row[1] != 0


def can_fault(block, at):
    """Whether the row of this number, which is known to be there, may fault."""
    sure, rows = block
    row = rows[at]
    if row[0] == "over":
        return not is_safe_number(rows[row[2]])
    place = place_of(row)
    return place is not None and place >= sure


def share_written_cell(row, other):
    """Whether both rows read or write the same cell, and one of them writes."""
    return place_of(row) == place_of(other) and (writes(row) or writes(other))


def must_stay(block, first, second):
    """Whether of two rows, the lesser number first, the first must stay ahead."""
    rows = block[1]
    if first in names_of(rows[second]) or share_written_cell(rows[first], rows[second]):
        return True
    first_faults, second_faults = can_fault(block, first), can_fault(block, second)
    if first_faults and second_faults:
        return True
    return (first_faults and writes(rows[second])) or (second_faults and writes(rows[first]))


def must_pairs(block):
    """What `must` tells, of what is known to be a block."""
    many = len(block[1])
    pairs = [(first, second) for first in range(many) for second in range(first + 1, many)]
    return [(first, second) for first, second in pairs if must_stay(block, first, second)]


def may_fault(block, row):
    """Whether a row may fault."""
    row_at(block, row)
    return can_fault(block, row)


def must(block):
    """The new rising list of tuples (row, row), the first of which must stay ahead."""
    if not is_block(block):
        raise NoBlock("this is no block")
    return must_pairs(block)


def ahead(block, row):
    """The new rising list of all rows that must be done ahead of a row, also by way of others."""
    row_at(block, row)
    found = []
    # Downwards: by then all rows behind, by way of which one might be ahead, are settled.
    for first in reversed(range(row)):
        if any([must_stay(block, first, later) for later in found + [row]]):
            found.append(first)
    return sorted(found)

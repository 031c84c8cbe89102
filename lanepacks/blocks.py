"""What a block is, row by row, and what its rows name."""

from lanepacks.errors import NoBlock, NoRow
from lanepacks.words import DEEDS, MOST_WORD, is_whole

MOST_SURE = 64
MOST_ROWS = 40
MOST_PLACE = 63

DEED_PARTS = ("row", "row")

OTHER_PARTS = {
    "number": ("word",),
    "pick": ("row", "row", "row"),
    "load": ("place",),
    "take": ("place", "row", "row"),
    "store": ("place", "row"),
    "put": ("place", "row", "row"),
}

READERS = ("load", "take")
WRITERS = ("store", "put")


def parts_of(deed):
    """The kinds of what stands behind a text in a row; None, where it is no deed."""
    if deed in DEEDS:
        return DEED_PARTS
    return OTHER_PARTS.get(deed)


def makes_word(row):
    """Whether a row, itself in the stead of its number, makes a word."""
    return row[0] not in WRITERS


def place_of(row):
    """The number of the cell that a row reads or writes, None where it does neither."""
    return row[1] if row[0] in READERS or row[0] in WRITERS else None


def names_of(row):
    """The new list of the rows that a row, itself in the stead of its number, names."""
    deed, *rest = row
    return [given for part, given in zip(parts_of(deed), rest) if part == "row"]


def with_names(row, names):
    """The row with these numbers in the stead of those it names, in order."""
    # Whatever the deed, what is named stands last in a row.
    return row[:len(row) - len(names)] + tuple(names)


def may_name(thing, able):
    """Whether a thing is a row's number of which `able`, with a truth for each row ahead, tells True."""
    return is_whole(thing, 0, len(able) - 1) and able[thing]


def fits(part, thing, able):
    """Whether a thing may stand as a part of a row; `able` tells which rows ahead may be named."""
    if part == "word":
        return is_whole(thing, 0, MOST_WORD)
    if part == "place":
        return is_whole(thing, 0, MOST_PLACE)
    return may_name(thing, able)


def is_row(thing, able):
    """Whether a thing is a row; `able` tells, for each row ahead, whether it may be named."""
    if not isinstance(thing, tuple) or len(thing) == 0:
        return False
    deed, *rest = thing
    # Only a text may be looked up: a thing of another kind need not have a hash.
    parts = parts_of(deed) if isinstance(deed, str) else None
    if parts is None or len(parts) != len(rest):
        return False
    return all([fits(part, given, able) for part, given in zip(parts, rest)])


def is_block(thing):
    """Whether a thing of any kind is a block."""
    if not isinstance(thing, tuple) or len(thing) != 2:
        return False
    sure, rows = thing
    if not is_whole(sure, 0, MOST_SURE):
        return False
    if not isinstance(rows, tuple) or len(rows) > MOST_ROWS:
        return False
    able = []
    # In order, up to the first that is none: only of a row it can be told whether it makes a word.
    for row in rows:
        if not is_row(row, able):
            return False
        able.append(makes_word(row))
    return True


def row_at(block, row):
    """The row of a number in a block; both may be things of any kind."""
    if not is_block(block):
        raise NoBlock("this is no block")
    rows = block[1]
    if not is_whole(row, 0, len(rows) - 1):
        raise NoRow(row)
    return rows[row]


def makes(block, row):
    """Whether a row makes a word."""
    return makes_word(row_at(block, row))


def named(block, row):
    """The new list of the rows that a row names, in order, as often as it does."""
    return names_of(row_at(block, row))

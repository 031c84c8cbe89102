"""What a block is, row by row, and what its rows name."""

from lanepacks.errors import NoBlock, NoRow
from lanepacks.words import DEEDS, MOST_WORD, is_whole

MOST_SURE = 64
MOST_ROWS = 40
MOST_PLACE = 63

DEED_PARTS = ("row", "row")

OTHER_PARTS = {
    "number": ("word",),
    "pick": ("row", "row", "row"),
    "load": ("place",),
    "take": ("place", "row", "row"),
    "store": ("place", "row"),
    "put": ("place", "row", "row"),
}

WORDLESS = ("store", "put")


def parts_of(deed):
    """The kinds of what stands behind a text in a row; None, where it is no deed."""
    if deed in DEEDS:
        return DEED_PARTS
    return OTHER_PARTS.get(deed)


def makes_word(row):
    """Whether a row, itself in the stead of its number, makes a word."""
    return row[0] not in WORDLESS


def fits(part, thing, ahead):
    """Whether a thing may stand as a part of a row behind the rows ahead."""
    if part == "word":
        return is_whole(thing, 0, MOST_WORD)
    if part == "place":
        return is_whole(thing, 0, MOST_PLACE)
    return is_whole(thing, 0, len(ahead) - 1) and makes_word(ahead[thing])


def is_row(thing, ahead):
    """Whether a thing is a row behind the rows ahead, which are known to be rows."""
    if not isinstance(thing, tuple) or len(thing) == 0:
        return False
    deed, *rest = thing
    # Only a text may be looked up: a thing of another kind need not have a hash.
    parts = parts_of(deed) if isinstance(deed, str) else None
    if parts is None or len(parts) != len(rest):
        return False
    return all([fits(part, given, ahead) for part, given in zip(parts, rest)])


def is_block(thing):
    """Whether a thing of any kind is a block."""
    if not isinstance(thing, tuple) or len(thing) != 2:
        return False
    sure, rows = thing
    if not is_whole(sure, 0, MOST_SURE):
        return False
    if not isinstance(rows, tuple) or len(rows) > MOST_ROWS:
        return False
    # In order, up to the first that is none: what a row names is looked at as a row.
    for at, row in enumerate(rows):
        if not is_row(row, rows[:at]):
            return False
    return True


def row_at(block, row):
    """The row of a number in a block; both may be things of any kind."""
    if not is_block(block):
        raise NoBlock("this is no block")
    rows = block[1]
    if not is_whole(row, 0, len(rows) - 1):
        raise NoRow(row)
    return rows[row]


def makes(block, row):
    """Whether a row makes a word."""
    return makes_word(row_at(block, row))


def named(block, row):
    """The new list of the rows that a row names, in order, as often as it does."""
    deed, *rest = row_at(block, row)
    return [given for part, given in zip(parts_of(deed), rest) if part == "row"]

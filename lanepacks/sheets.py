"""Sheets: lists that show, row by row, that a program does what a block does."""

from lanepacks.blocks import is_block, names_of, place_of
from lanepacks.errors import NoBlock, NoProgram, NoRow
from lanepacks.machines import is_program, kind_made
from lanepacks.orders import must_pairs
from lanepacks.words import is_whole


def has_word(program, row, lane):
    """Whether there is such a word; row and lane may be things of any kind."""
    lanes, sure, rows = program
    if not is_whole(row, 0, len(rows) - 1):
        return False
    kind = kind_made(rows[row])
    if kind == "pack":
        return is_whole(lane, 0, lanes - 1)
    return kind == "word" and lane is None


def taken_from(row, lane, lanes):
    """The (row, lane) of the word that a row only moves; None, where it moves none."""
    if row[0] == "lane":
        return (row[1], row[2])
    if row[0] == "gather":
        return (row[1][lane], None)
    if row[0] == "shuffle":
        at = row[3][lane]
        return (row[1], at) if at < lanes else (row[2], at - lanes)
    return None


def trace(program, row, lane):
    """What `traced` tells, of a word that is known to be there."""
    lanes, sure, rows = program
    source = (row, lane)
    # A loop: a word may be moved by more rows than calls should lie within one another.
    while source is not None:
        row, lane = source
        source = taken_from(rows[row], lane, lanes)
    if rows[row][0] == "number":
        return ("number", rows[row][1])
    if rows[row][:2] == ("wide", "number"):
        return ("number", rows[row][2][lane])
    return (row, lane)


def traced(program, row, lane=None):
    """What a word is traced to: the tuple ("number", n), or (row, lane)."""
    if not is_program(program):
        raise NoProgram("this is no program")
    if not has_word(program, row, lane):
        raise NoRow(row)
    return trace(program, row, lane)


def is_entry(program, thing):
    """Whether a thing of any kind is a (row, lane) of a program, lane None where it is not wide."""
    lanes, sure, rows = program
    if not isinstance(thing, tuple) or len(thing) != 2:
        return False
    row, lane = thing
    if not is_whole(row, 0, len(rows) - 1):
        return False
    return is_whole(lane, 0, lanes - 1) if rows[row][0] == "wide" else lane is None


def are_entries(block, program, thing):
    """Whether a thing of any kind is a list with an entry, or None, as each row of a block asks."""
    if not isinstance(thing, list) or len(thing) != len(block[1]):
        return False
    for row, entry in zip(block[1], thing):
        good = entry is None if row[0] == "number" else is_entry(program, entry)
        if not good:
            return False
    there = [entry for entry in thing if entry is not None]
    return len(set(there)) == len(there)


def deed_row(row):
    """The row of a program as a block would have it; one that only moves words stays as it is."""
    return row[1:] if row[0] == "wide" else row


def does_same(block, program, sheet, at):
    """Whether a row of the block, no number row, is done at its entry, on the same cell and words."""
    row, (where, lane) = block[1][at], sheet[at]
    there = deed_row(program[2][where])
    if there[0] != row[0]:
        return False
    place = place_of(row)
    if place is not None and place != place_of(there) + (0 if lane is None else lane):
        return False
    found = [trace(program, name, lane) for name in names_of(there)]
    return found == [meant(block, sheet, name) for name in names_of(row)]


def meant(block, sheet, name):
    """What a word is to be traced to, where a row of the block names this row."""
    row = block[1][name]
    return row if row[0] == "number" else sheet[name]


def doers(program):
    """The new list of the (row, lane) of a program that do a deed on cells, or over."""
    lanes, sure, rows = program
    found = []
    for at, row in enumerate(rows):
        there = deed_row(row)
        if there[0] == "over" or place_of(there) is not None:
            places = list(range(lanes)) if row[0] == "wide" else [None]
            found.extend([(at, lane) for lane in places])
    return found


def keeps_order(block, sheet):
    """Whether of each two rows that must stay so the first has the lesser entry."""
    for first, second in must_pairs(block):
        # A number row has no entry to be compared; it is named, but never the second of two.
        if sheet[first] is not None and not is_lesser(sheet[first], sheet[second]):
            return False
    return True


def is_lesser(entry, other):
    """Whether an entry is less than an unlike one, by row and then lane."""
    if entry[0] != other[0]:
        return entry[0] < other[0]
    # Unlike entries of one row are those of a wide row, so that both have a lane.
    return entry[1] < other[1]


def shows(block, program, thing):
    """Whether a thing of any kind is a sheet that shows that the program does what the block does."""
    if not is_block(block):
        raise NoBlock("this is no block")
    if not is_program(program):
        raise NoProgram("this is no program")
    if block[0] != program[1] or not are_entries(block, program, thing):
        return False
    rows = [at for at, entry in enumerate(thing) if entry is not None]
    if not all([does_same(block, program, thing, at) for at in rows]):
        return False
    return all([entry in thing for entry in doers(program)]) and keeps_order(block, thing)

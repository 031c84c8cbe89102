"""The wider machine: what a program is, how it runs, and what it costs."""

from lanepacks.blocks import MOST_SURE, is_row, makes_word, may_name, names_of
from lanepacks.errors import NoCells, NoProgram
from lanepacks.plans import is_lanes
from lanepacks.running import do_row, is_cells
from lanepacks.words import MOST_WORD, is_whole

MOST_PROGRAM_ROWS = 400


def is_for_lanes(thing, lanes):
    """Whether a thing of any kind is a tuple of as many things as there are lanes."""
    return isinstance(thing, tuple) and len(thing) == lanes


def is_wide(rest, lanes, packs):
    """Whether this may stand behind `wide`; `packs` tells which rows ahead make a pack of words."""
    # Only a text may be compared: a thing of another kind need not allow it.
    if len(rest) == 2 and isinstance(rest[0], str) and rest[0] == "number":
        return is_for_lanes(rest[1], lanes) and all([is_whole(word, 0, MOST_WORD) for word in rest[1]])
    return is_row(rest, packs)


def is_gather(rest, lanes, words):
    """Whether this may stand behind `gather`; `words` tells which rows ahead make a word."""
    if len(rest) != 1 or not is_for_lanes(rest[0], lanes):
        return False
    return all([may_name(row, words) for row in rest[0]])


def is_shuffle(rest, lanes, packs):
    """Whether this may stand behind `shuffle`."""
    if len(rest) != 3 or not may_name(rest[0], packs) or not may_name(rest[1], packs):
        return False
    return is_for_lanes(rest[2], lanes) and all([is_whole(at, 0, 2 * lanes - 1) for at in rest[2]])


def is_lane(rest, lanes, packs):
    """Whether this may stand behind `lane`."""
    return len(rest) == 2 and may_name(rest[0], packs) and is_whole(rest[1], 0, lanes - 1)


def is_program_row(thing, lanes, words, packs):
    """Whether a thing is a row of a program; words and packs tell what the rows ahead make."""
    if not isinstance(thing, tuple) or len(thing) == 0 or not isinstance(thing[0], str):
        return False
    deed, rest = thing[0], thing[1:]
    if deed == "wide":
        return is_wide(rest, lanes, packs)
    if deed == "gather":
        return is_gather(rest, lanes, words)
    if deed == "shuffle":
        return is_shuffle(rest, lanes, packs)
    if deed == "lane":
        return is_lane(rest, lanes, packs)
    return is_row(thing, words)


def kind_made(row):
    """What a row of a program makes: a word, a pack, or None."""
    if row[0] == "wide":
        return "pack" if makes_word(row[1:]) else None
    if row[0] in ("gather", "shuffle"):
        return "pack"
    return "word" if makes_word(row) else None


def are_program_rows(rows, lanes):
    """Whether the things of a tuple are rows of a program."""
    words, packs = [], []
    # In order, up to the first that is none: only of a row it can be told what it makes.
    for row in rows:
        if not is_program_row(row, lanes, words, packs):
            return False
        kind = kind_made(row)
        words.append(kind == "word")
        packs.append(kind == "pack")
    return True


def is_program(thing):
    """Whether a thing of any kind is a program."""
    if not isinstance(thing, tuple) or len(thing) != 3:
        return False
    lanes, sure, rows = thing
    if not is_lanes(lanes) or not is_whole(sure, 0, MOST_SURE):
        return False
    if not isinstance(rows, tuple) or len(rows) > MOST_PROGRAM_ROWS:
        return False
    return are_program_rows(rows, lanes)


def do_wide(row, lanes, made, cells):
    """Does what stands behind `wide`, lane by lane: the tuple (pack, lane of a fault, why)."""
    if row[0] == "number":
        return (list(row[1]), None, None)
    pack = []
    for lane in range(lanes):
        words = [made[name][lane] for name in names_of(row)]
        word, why = do_row(row, words, cells, lane)
        if why is not None:
            return (pack, lane, why)
        pack.append(word)
    return (pack, None, None)


def moved(row, made):
    """What a gather, shuffle or lane row makes of what the rows ahead made."""
    if row[0] == "gather":
        return [made[name] for name in row[1]]
    if row[0] == "lane":
        return made[row[1]][row[2]]
    both = made[row[1]] + made[row[2]]
    return [both[at] for at in row[3]]


def do_program_row(row, lanes, made, cells):
    """Does a row on cells, which it may change: the tuple (what it makes, lane of a fault, why)."""
    if row[0] == "wide":
        return do_wide(row[1:], lanes, made, cells)
    if row[0] in ("gather", "shuffle", "lane"):
        return (moved(row, made), None, None)
    word, why = do_row(row, [made[name] for name in names_of(row)], cells)
    return (word, None, why)


def run_program(program, cells):
    """The tuple (new list of cells then, fault)."""
    if not is_program(program):
        raise NoProgram("this is no program")
    lanes, sure, rows = program
    if not is_cells(cells, sure):
        raise NoCells("these are no cells for the program")
    then = list(cells)
    made = []
    for at, row in enumerate(rows):
        told, lane, why = do_program_row(row, lanes, made, then)
        if why is not None:
            return (then, (at, lane, why))
        made.append(told)
    return (then, None)


def row_cost(row, lanes):
    """What a row of a program costs."""
    if row[0] == "number" or row[:2] == ("wide", "number"):
        return 0
    return lanes if row[0] == "gather" else 1


def cost_of(program):
    """What a program costs."""
    if not is_program(program):
        raise NoProgram("this is no program")
    lanes, sure, rows = program
    return sum([row_cost(row, lanes) for row in rows])

"""How a block runs on cells, row behind row, up to a fault."""

from lanepacks.blocks import WRITERS, is_block, names_of, place_of
from lanepacks.errors import NoBlock, NoCells
from lanepacks.words import MOST_WORD, done, is_whole

MOST_CELLS = 64


def is_cells(thing, sure):
    """Whether a thing of any kind is cells, at least as many as are sure."""
    if not isinstance(thing, list) or not sure <= len(thing) <= MOST_CELLS:
        return False
    return all([is_whole(word, 0, MOST_WORD) for word in thing])


def touches(deed, words):
    """Whether a deed on cells touches its cell, by the words of the rows that are named."""
    if deed == "take":
        return words[0] != 0
    if deed == "put":
        return words[1] != 0
    return True


def do_on_cell(deed, place, words, cells):
    """Does a deed on cells, which it may change: the tuple (word or None, why or None)."""
    if not touches(deed, words):
        return (words[1] if deed == "take" else None, None)
    if place >= len(cells):
        return (None, "beyond")
    if deed in WRITERS:
        cells[place] = words[0]
        return (None, None)
    return (cells[place], None)


def do_row(row, words, cells, shift=0):
    """Does a row, given the words of the rows it names, on cells, which it may change.

    Its cell is that of its place and the shift together, so that a lane of a wide row is
    done by this too. Told is the tuple (word or None, why it faults or None).
    """
    deed = row[0]
    if deed == "number":
        return (row[1], None)
    place = place_of(row)
    if place is not None:
        return do_on_cell(deed, place + shift, words, cells)
    word = done(deed, words)
    return (word, "nought" if word is None else None)


def do_rows(rows, cells):
    """Does rows on cells, which it may change: the tuple (words of those done, fault)."""
    words = []
    for at, row in enumerate(rows):
        word, why = do_row(row, [words[name] for name in names_of(row)], cells)
        if why is not None:
            return (words, (at, why))
        words.append(word)
    return (words, None)


def check_run(block, cells):
    """Refuses what can't be run; both may be things of any kind."""
    if not is_block(block):
        raise NoBlock("this is no block")
    if not is_cells(cells, block[0]):
        raise NoCells("these are no cells for the block")


def run(block, cells):
    """The tuple (new list of cells then, fault)."""
    check_run(block, cells)
    then = list(cells)
    words, fault = do_rows(block[1], then)
    return (then, fault)


def values(block, cells):
    """The new list of the words of all rows that were done, None of those that make none."""
    check_run(block, cells)
    words, fault = do_rows(block[1], list(cells))
    return words

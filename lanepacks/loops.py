"""Loops: how they run, their turns laid one behind the other, and put side by side."""

from lanepacks.blocks import (
    MOST_PLACE, MOST_ROWS, MOST_SURE, READERS, WRITERS, is_row, makes_word, names_of, place_of, with_names,
)
from lanepacks.errors import NoCells, NoLanes, NoLoop, TooLong
from lanepacks.orders import writes
from lanepacks.plans import is_lanes, is_pack, ordered
from lanepacks.running import do_row, is_cells
from lanepacks.words import MOST_WORD, is_whole

MOST_TURNS = 8
MOST_LOOP_ROWS = 8
MOST_STEP = 9


def place_in(stride, turn):
    """The place of a tuple (base, step) in a turn."""
    base, step = stride
    return base + step * turn


def in_turn(row, turn):
    """A row of a loop, no last, as it is in a turn: a row as of a block."""
    stride = place_of(row)
    return row if stride is None else (row[0], place_in(stride, turn)) + row[2:]


def is_stride(thing, turns):
    """Whether a thing of any kind is a tuple (base, step) with a place in each of so many turns."""
    if not isinstance(thing, tuple) or len(thing) != 2:
        return False
    if not is_whole(thing[0], 0, MOST_PLACE) or not is_whole(thing[1], -MOST_STEP, MOST_STEP):
        return False
    # Between the first and the last turn the places go one way.
    return is_whole(place_in(thing, turns - 1), 0, MOST_PLACE)


def is_last(thing, many):
    """Whether a thing that begins with `last` is such a row of so many, whatever the row it is of makes."""
    return len(thing) == 3 and is_whole(thing[1], 0, many - 1) and is_whole(thing[2], 0, MOST_WORD)


def is_loop_row(thing, able, turns, many):
    """Whether a thing of any kind is a row of a loop; `able` tells which rows ahead may be named."""
    if not isinstance(thing, tuple) or len(thing) == 0 or not isinstance(thing[0], str):
        return False
    if thing[0] == "last":
        return is_last(thing, many)
    if thing[0] in READERS or thing[0] in WRITERS:
        return len(thing) > 1 and is_stride(thing[1], turns) and is_row(in_turn(thing, 0), able)
    return is_row(thing, able)


def are_loop_rows(things, turns):
    """Whether the things of a tuple are the rows of a loop of so many turns."""
    able = []
    for thing in things:
        if not is_loop_row(thing, able, turns, len(things)):
            return False
        able.append(makes_word(thing))
    # Only now it is known of each row whether it makes a word, for a last may be of a row behind it.
    return all([able[row[1]] for row in things if row[0] == "last"])


def is_loop(thing):
    """Whether a thing of any kind is a loop."""
    if not isinstance(thing, tuple) or len(thing) != 3:
        return False
    sure, turns, rows = thing
    if not is_whole(sure, 0, MOST_SURE) or not is_whole(turns, 1, MOST_TURNS):
        return False
    if not isinstance(rows, tuple) or not 1 <= len(rows) <= MOST_LOOP_ROWS:
        return False
    return are_loop_rows(rows, turns)


def check_loop(loop):
    """Refuses what is no loop."""
    if not is_loop(loop):
        raise NoLoop("this is no loop")


def do_turn(rows, turn, before, cells):
    """Does one turn on cells, which it may change: the tuple (words of those done, fault)."""
    words = []
    for at, row in enumerate(rows):
        if row[0] == "last":
            words.append(row[2] if turn == 0 else before[row[1]])
            continue
        word, why = do_row(in_turn(row, turn), [words[name] for name in names_of(row)], cells)
        if why is not None:
            return (words, (turn, at, why))
        words.append(word)
    return (words, None)


def run_loop(loop, cells):
    """The tuple (new list of cells then, fault)."""
    check_loop(loop)
    sure, turns, rows = loop
    if not is_cells(cells, sure):
        raise NoCells("these are no cells for the loop")
    then = list(cells)
    words = []
    for turn in range(turns):
        words, fault = do_turn(rows, turn, words, then)
        if fault is not None:
            return (then, fault)
    return (then, None)


def lay_turn(rows, turn, before, laid):
    """Puts the rows of one turn behind those that are laid: the list of the laid row that each one is.

    `before` is that of the turn ahead; ahead of the first, it has the number rows of the lasts.
    """
    meant = []
    for at, row in enumerate(rows):
        if row[0] == "last":
            meant.append(before[at] if turn == 0 else before[row[1]])
        else:
            laid.append(with_names(in_turn(row, turn), [meant[name] for name in names_of(row)]))
            meant.append(len(laid) - 1)
    return meant


def unrolled(loop):
    """The tuple (block, new list with, for each turn, the list of its rows' numbers, None of lasts)."""
    check_loop(loop)
    sure, turns, rows = loop
    lasts = [at for at, row in enumerate(rows) if row[0] == "last"]
    laid = [("number", rows[at][2]) for at in lasts]
    meant = [lasts.index(at) if at in lasts else None for at in range(len(rows))]
    numbers = []
    for turn in range(turns):
        meant = lay_turn(rows, turn, meant, laid)
        numbers.append([None if at in lasts else number for at, number in enumerate(meant)])
    if len(laid) > MOST_ROWS:
        raise TooLong("the block would have more than 40 rows")
    return ((sure, tuple(laid)), numbers)


def turn_plan(loop, *, lanes=4):
    """The plan of the unrolled block in which turns are put side by side."""
    check_loop(loop)
    if not is_lanes(lanes):
        raise NoLanes("this is no number of lanes from 2 to 4")
    block, numbers = unrolled(loop)
    plan = ()
    for first in range(0, len(numbers), lanes):
        for at in range(len(loop[2])):
            # Of a number, of a last, and of a rest of fewer turns than lanes this is no pack.
            pack = tuple([turn[at] for turn in numbers[first:first + lanes]])
            if is_pack(block, lanes, pack) and ordered(block, plan + (pack,)) is not None:
                plan = plan + (pack,)
    return plan


def reach(loop):
    """The least number of turns between two that touch the same cell, where one writes it; or None."""
    check_loop(loop)
    sure, turns, rows = loop
    on_cells = [row for row in rows if place_of(row) is not None]
    touched = [(turn, place_in(row[1], turn), writes(row)) for turn in range(turns) for row in on_cells]
    spans = [
        later - turn
        for turn, place, written in touched
        for later, other, rewritten in touched
        if later > turn and other == place and (written or rewritten)
    ]
    return min(spans, default=None)

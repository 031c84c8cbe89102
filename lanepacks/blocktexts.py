"""Blocks and plans as texts, written and read back."""

from lanepacks.blocks import MOST_ROWS, is_block
from lanepacks.errors import NoBlock, NoLanes, NoPlan, NoText
from lanepacks.plans import LEAST_LANES, MOST_LANES, is_lanes, rows_within
from lanepacks.words import MOST_WORD, is_whole

DIGITS = "0123456789"


def number_in(word):
    """The whole number that a word is written for; None, where it is none, or not written so."""
    # No number is longer; and of a text of thousands of digits Python makes no number at all.
    if not 1 <= len(word) <= len(str(MOST_WORD)) or not all([sign in DIGITS for sign in word]):
        return None
    return int(word) if word == str(int(word)) else None


def shown(block):
    """A block as a text."""
    if not is_block(block):
        raise NoBlock("this is no block")
    sure, rows = block
    parts = [("sure", sure)] + list(rows)
    return "; ".join([" ".join([str(thing) for thing in part]) for part in parts])


def parts_in(text):
    """The new list of tuples, a word and numbers or None, that a text is written for."""
    parts = []
    for part in text.split("; "):
        first, *rest = part.split(" ")
        parts.append((first,) + tuple([number_in(word) for word in rest]))
    return parts


def read(text):
    """The block of a text."""
    if not isinstance(text, str):
        raise NoText("this is no text")
    head, *rows = parts_in(text)
    if len(head) != 2 or head[0] != "sure" or not is_block((head[1], tuple(rows))):
        raise NoText("this is no text of a block")
    return (head[1], tuple(rows))


def is_rising(things):
    """Whether each of several things is less than the next one."""
    return all([first < second for first, second in zip(things, things[1:])])


def is_written_pack(thing, lanes):
    """Whether a thing of any kind is a tuple of as many rows as lanes, rising."""
    if not isinstance(thing, tuple) or len(thing) != lanes:
        return False
    return all([is_whole(row, 0, MOST_ROWS - 1) for row in thing]) and is_rising(thing)


def is_written_plan(thing, lanes):
    """Whether a thing of any kind is a tuple of such tuples, rising, no row in two of them."""
    if not isinstance(thing, tuple) or not all([is_written_pack(pack, lanes) for pack in thing]):
        return False
    rows = rows_within(thing)
    return is_rising(thing) and len(set(rows)) == len(rows)


def shown_plan(plan):
    """A plan as a text."""
    if not any([is_written_plan(plan, lanes) for lanes in range(LEAST_LANES, MOST_LANES + 1)]):
        raise NoPlan("this is no plan that can be written")
    return " ".join(["+".join([str(row) for row in pack]) for pack in plan])


def read_plan(text, lanes):
    """The plan of a text, of packs of as many rows as lanes."""
    if not is_lanes(lanes):
        raise NoLanes("this is no number of lanes from 2 to 4")
    if not isinstance(text, str):
        raise NoText("this is no text")
    # An empty text is that of no pack, not of one without rows.
    packs = text.split(" ") if text != "" else []
    plan = tuple([tuple([number_in(word) for word in pack.split("+")]) for pack in packs])
    if not is_written_plan(plan, lanes):
        raise NoText("this is no text of a plan")
    return plan

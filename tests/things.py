"""Things that several tests hand in."""

import itertools

from lanepacks.plans import is_plan
from lanepacks.words import DEEDS


class Odd:
    """A thing that can't be compared, hashed, counted or shown."""

    __hash__ = None

    def refuse(self, *args):
        raise RuntimeError

    __eq__ = __ne__ = __lt__ = __le__ = __gt__ = __ge__ = refuse
    __len__ = __iter__ = __getitem__ = __bool__ = __int__ = __index__ = __repr__ = refuse


ODD = [
    None, True, False, "", "0", "ab", b"", b"\x00", [], [0], (), (0,), ((0,),), {}, {0: 0}, set(), {0},
    frozenset(), range(2), object(), int, len, Odd(), 10 ** 40, -(10 ** 40),
]


NO_BLOCKS = ODD + [
    [0, ()], (0, []), (0,), (0, (), ()), (65, ()), (-1, ()), (False, ()), (0, (("plus", 0, 0),)),
    (0, (("number", True),)), (0, (["number", 1],)), (0, (("number", 0),) * 41),
]

NO_LANES = ODD + [0, 1, 5, 6, -2, -4, 40, "2", b"2", (2,), [2]]

# For each deed on cells: a row of a place, that names two rows at most.
ON_CELLS = {
    "load": lambda place, a, b: ("load", place),
    "take": lambda place, a, b: ("take", place, a, b),
    "store": lambda place, a, b: ("store", place, a),
    "put": lambda place, a, b: ("put", place, a, b),
}


def is_empty_tuple(thing):
    return isinstance(thing, tuple) and len(thing) == 0


def all_plans(block, lanes):
    """All plans, by the words of [7], of a small block."""
    tuples = itertools.combinations(range(len(block[1])), lanes)
    packs = [rows for rows in tuples if is_plan(block, lanes, (rows,))]

    def grown(plan):
        yield plan
        taken = set(itertools.chain(*plan))
        for pack in packs:
            if (not plan or pack > plan[-1]) and not taken & set(pack):
                yield from grown(plan + (pack,))

    return list(grown(()))


ALL_DEEDS = DEEDS + ("pick", "number", "take", "store", "put", "load", "over", "plus")


def any_row(dice, able, places, deeds=ALL_DEEDS):
    """A row that names rows of `able` alone, by dice that always fall the same."""
    deed = dice.choice(deeds) if able else dice.choice(("load", "number"))
    a, b, c = [dice.choice(able) for spot in range(3)] if able else (None, None, None)
    if deed == "number":
        return ("number", dice.choice((0, 1, 2, 999)))
    if deed in ON_CELLS:
        return ON_CELLS[deed](dice.randrange(places), a, b)
    return ("pick", a, b, c) if deed == "pick" else (deed, a, b)


def any_block(dice, most, places=4):
    """A block of up to so many rows on the first cells, of few deeds, so that there are packs."""
    deeds = [dice.choice(ALL_DEEDS) for some in range(dice.randint(1, 4))] + ["load"]
    rows, able = [], []
    for at in range(dice.randint(0, most)):
        rows.append(any_row(dice, able, places, deeds))
        if rows[-1][0] not in ("store", "put"):
            able.append(at)
    return (dice.randint(0, places), tuple(rows))


def lane_block(dice, lanes, turns, places=4):
    """A block that does alike several times over, so that there are many packs, some of them crossed."""
    rows, able = [], []
    for turn in range(turns):
        sample = any_row(dice, able, places)
        first = dice.randrange(places)
        before = list(able)
        for lane in range(lanes):
            a, b, c = [dice.choice(before) for spot in range(3)] if before else (None, None, None)
            deed = sample[0]
            if deed in ON_CELLS:
                row = ON_CELLS[deed](first + lane, a, b)
            elif deed == "number":
                row = ("number", dice.choice((0, 1, 5)))
            else:
                row = (deed, a, b, c)[:len(sample)]
            rows.append(row)
            if deed not in ("store", "put"):
                able.append(len(rows) - 1)
    return (dice.randint(0, places + lanes), tuple(rows))


def any_cells(dice, least, most):
    """Cells for a block that has so many sure, with many words that are 0."""
    return [dice.choice((0, 0, 1, 2, 7, 500, 999)) for cell in range(dice.randint(least, most))]

"""Plans found: all packs of a small block, its best plan, and a good plan of any block."""

from lanepacks.errors import TooMany
from lanepacks.orders import ahead, must_pairs
from lanepacks.plans import check_lanes, is_pack, nodes_of, ordered_by, plan_cost, rows_within

MOST_TRIED_ROWS = 8


def check_few(block, lanes):
    """Refuses what is no block, no number of lanes, or a block of too many rows."""
    check_lanes(block, lanes)
    if len(block[1]) > MOST_TRIED_ROWS:
        raise TooMany("the block has more than 8 rows")


def all_packs(block, lanes):
    """What `packs` tells, of what is known to be a small block."""
    many = len(block[1])
    found = [(row,) for row in range(many)]
    for size in range(2, lanes + 1):
        longer = [rows + (row,) for rows in found for row in range(rows[-1] + 1, many)]
        found = [rows for rows in longer if is_pack(block, size, rows)]
    return found


def packs(block, lanes):
    """The new rising list of all packs of a block of at most 8 rows."""
    check_few(block, lanes)
    return all_packs(block, lanes)


def may_join(block, pairs, plan, pack):
    """Whether a valid plan with this pack besides is a plan and valid."""
    taken = rows_within(plan)
    if any([row in taken for row in pack]):
        return False
    return ordered_by(pairs, nodes_of(block, plan + (pack,))) is not None


def best_plan(block, *, lanes=2):
    """Of all valid plans of a block of at most 8 rows that of the least cost, of several the first."""
    check_few(block, lanes)
    pairs = must_pairs(block)
    plans = [()]
    for pack in all_packs(block, lanes):
        # A plan that is not valid is left out here for good: no further pack makes it valid.
        plans = plans + [plan + (pack,) for plan in plans if may_join(block, pairs, plan, pack)]
    return min(plans, key=lambda plan: (plan_cost(block, lanes, plan), plan))


def is_parted(aheads, rows):
    """Whether another row must be done behind one of the rows and ahead of another one of them."""
    for between, needed in enumerate(aheads):
        if between not in rows and any([row in needed for row in rows]):
            if any([between in aheads[row] for row in rows]):
                return True
    return False


def pack_from(block, lanes, aheads, free):
    """A pack of free rows, a rising list, that begins with the first one; None, where none is found."""
    rows = (free[0],)
    for row in free[1:]:
        more = rows + (row,)
        if is_pack(block, len(more), more) and not is_parted(aheads, more):
            rows = more
        if len(rows) == lanes:
            return rows
    return None


def full_plan(block, lanes):
    """A valid plan with a pack wherever one is found, the rows gone through in order."""
    pairs = must_pairs(block)
    aheads = [ahead(block, row) for row in range(len(block[1]))]
    plan = ()
    for row in range(len(block[1])):
        taken = rows_within(plan)
        free = [later for later in range(row, len(block[1])) if later not in taken]
        pack = pack_from(block, lanes, aheads, free) if row in free else None
        if pack is not None and may_join(block, pairs, plan, pack):
            plan = plan + (pack,)
    return plan


def thinned(block, lanes, plan):
    """A valid plan without those of its packs, asked one by one, without which it costs less."""
    left = plan
    for pack in reversed(plan):
        without = tuple([other for other in left if other != pack])
        if plan_cost(block, lanes, without) < plan_cost(block, lanes, left):
            left = without
    return left


def found_plan(block, *, lanes=4):
    """A valid plan that costs no more than the plan without packs."""
    check_lanes(block, lanes)
    plan = full_plan(block, lanes)
    thinner = thinned(block, lanes, plan)
    while thinner != plan:
        plan = thinner
        thinner = thinned(block, lanes, plan)
    # It may still cost more than no pack at all, where only several left out at once would pay.
    return min([(), plan], key=lambda one: plan_cost(block, lanes, one))

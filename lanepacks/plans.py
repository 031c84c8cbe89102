"""Plans of packs: which there are, which are valid, in which order and at what cost they are done."""

from lanepacks.blocks import is_block, names_of, place_of
from lanepacks.errors import NoBlock, NoLanes, NoPlan, NotValid
from lanepacks.orders import must_pairs
from lanepacks.words import is_whole

LEAST_LANES = 2
MOST_LANES = 4


def is_lanes(thing):
    """Whether a thing of any kind is a number of lanes."""
    return is_whole(thing, LEAST_LANES, MOST_LANES)


def may_follow(rows, first, second):
    """Whether the second row may stand in the lane behind the first one's."""
    deed = rows[first][0]
    if first >= second or deed == "number" or rows[second][0] != deed:
        return False
    place = place_of(rows[first])
    return place is None or place_of(rows[second]) == place + 1


def is_pack(block, lanes, thing):
    """Whether a thing of any kind is a pack of a block's rows."""
    rows = block[1]
    if not isinstance(thing, tuple) or len(thing) != lanes:
        return False
    if not all([is_whole(row, 0, len(rows) - 1) for row in thing]):
        return False
    if not all([may_follow(rows, first, second) for first, second in zip(thing, thing[1:])]):
        return False
    return not any([name in thing for row in thing for name in names_of(rows[row])])


def rows_within(tuples):
    """The new list of all rows in tuples of rows, such as the packs of a plan."""
    return [row for rows in tuples for row in rows]


def fits_plan(block, lanes, thing):
    """Whether a thing of any kind is a plan of what is known to be a block and lanes."""
    if not isinstance(thing, tuple) or not all([is_pack(block, lanes, pack) for pack in thing]):
        return False
    packed = rows_within(thing)
    return len(set(packed)) == len(packed) and list(thing) == sorted(thing)


def check_lanes(block, lanes):
    """Refuses what is no block or no number of lanes."""
    if not is_block(block):
        raise NoBlock("this is no block")
    if not is_lanes(lanes):
        raise NoLanes("this is no number of lanes from 2 to 4")


def check_plan(block, lanes, plan):
    """Refuses what is no block, no number of lanes or no plan for them."""
    check_lanes(block, lanes)
    if not fits_plan(block, lanes, plan):
        raise NoPlan("this is no plan for the block and the lanes")


def rows_alone(block, plan):
    """The new rising list of the rows that are in no pack."""
    packed = rows_within(plan)
    return [row for row in range(len(block[1])) if row not in packed]


def nodes_of(block, plan):
    """The new list of the nodes of a plan, by their first rows."""
    return sorted(list(plan) + [(row,) for row in rows_alone(block, plan)])


def waits_of(pairs, nodes):
    """The dict of the lists, for each node, of the other nodes that must be ahead of it."""
    node_of = {row: node for node in nodes for row in node}
    waits = {node: [] for node in nodes}
    for first, second in pairs:
        if node_of[first] != node_of[second]:
            waits[node_of[second]].append(node_of[first])
    return waits


def next_node(nodes, waits, settled):
    """The first node that is not done and waits for none that is not; None, where there is none."""
    for node in nodes:
        if node not in settled and all([other in settled for other in waits[node]]):
            return node
    return None


def ordered_by(pairs, nodes):
    """The new list of the nodes as they are done, by what `must` tells; None, where they can't be."""
    waits = waits_of(pairs, nodes)
    settled = {}
    while len(settled) < len(nodes):
        node = next_node(nodes, waits, settled)
        if node is None:
            return None
        settled[node] = True
    return list(settled)


def ordered(block, plan):
    """The new list of the nodes as they are done; None, where the plan is not valid."""
    return ordered_by(must_pairs(block), nodes_of(block, plan))


def wished(block, plan):
    """The new list of the unlike tuples of rows that the packs of a plan wish."""
    tuples = {}
    for pack in plan:
        by_lane = [names_of(block[1][row]) for row in pack]
        for spot in range(len(by_lane[0])):
            tuples[tuple([names[spot] for names in by_lane])] = True
    return list(tuples)


def supply(block, plan, rows):
    """How a tuple of rows that is wished is had: a pack, numbers, shuffled or gathered."""
    if rows in plan:
        return "pack"
    if all([block[1][row][0] == "number" for row in rows]):
        return "numbers"
    packed = rows_within(plan)
    sources = [pack for pack in plan if any([row in pack for row in rows])]
    if all([row in packed for row in rows]) and len(sources) <= 2:
        return "shuffled"
    return "gathered"


def wished_as(block, plan, kind):
    """The new list of the unlike tuples that are wished and had in this way."""
    return [rows for rows in wished(block, plan) if supply(block, plan, rows) == kind]


def drawn_rows(block, plan):
    """The new rising list of the rows in packs whose words are needed by themselves."""
    needed = rows_within(wished_as(block, plan, "gathered"))
    for row in rows_alone(block, plan):
        needed.extend(names_of(block[1][row]))
    return [row for row in sorted(rows_within(plan)) if row in needed]


def is_plan(block, lanes, thing):
    """Whether a thing of any kind is a plan for lanes."""
    check_lanes(block, lanes)
    return fits_plan(block, lanes, thing)


def is_valid(block, lanes, plan):
    """Whether the nodes of a plan can be done one behind the other."""
    check_plan(block, lanes, plan)
    return ordered(block, plan) is not None


def order(block, lanes, plan):
    """The new list of the nodes of a plan, tuples of rows, as they are done."""
    check_plan(block, lanes, plan)
    nodes = ordered(block, plan)
    if nodes is None:
        raise NotValid(plan)
    return nodes


def plan_cost(block, lanes, plan):
    """What `cost` tells, of what is known to be a valid plan."""
    alone = [row for row in rows_alone(block, plan) if block[1][row][0] != "number"]
    shuffled = wished_as(block, plan, "shuffled")
    gathered = wished_as(block, plan, "gathered")
    moved = len(shuffled) + lanes * len(gathered) + len(drawn_rows(block, plan))
    return len(alone) + len(plan) + moved


def cost(block, lanes, plan):
    """What a plan costs."""
    check_plan(block, lanes, plan)
    if ordered(block, plan) is None:
        raise NotValid(plan)
    return plan_cost(block, lanes, plan)

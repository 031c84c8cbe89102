"""A valid plan of a block led over to a program of the wider machine."""

from lanepacks.blocks import names_of, with_names
from lanepacks.errors import NotValid
from lanepacks.plans import check_plan, ordered, supply


class Draft:
    """A program as it grows, and where in it the words of the block's rows are had."""

    def __init__(self, source, wanted):
        self.source = source
        self.wanted = wanted
        self.written = []
        self.entries = [None] * len(source[1])
        # By the block's row: the program's row that makes its word by itself.
        self.singles = {}
        # By the tuple of the block's rows: the program's row that makes the pack of their words.
        self.groups = {}

    def write(self, row):
        """Puts a row behind the others: its number."""
        self.written.append(row)
        return len(self.written) - 1

    def single(self, at):
        """The program's row that makes the word of a block's row by itself."""
        if at not in self.singles:
            row, lane = self.entries[at]
            self.singles[at] = self.write(("lane", row, lane))
        return self.singles[at]

    def group(self, rows):
        """The program's row that makes the pack of the words of a tuple of the block's rows."""
        if rows not in self.groups:
            self.groups[rows] = self.write(self.brought(rows))
        return self.groups[rows]

    def brought(self, rows):
        """The row that brings words together which are no pack of the plan."""
        kind = supply(self.source, self.wanted, rows)
        if kind == "numbers":
            return ("wide", "number", tuple([self.source[1][row][1] for row in rows]))
        if kind == "shuffled":
            return self.shuffled(rows)
        return ("gather", tuple([self.single(row) for row in rows]))

    def shuffled(self, rows):
        """The row that shuffles words out of one pack or two."""
        packs = [pack for pack in self.wanted if any([row in pack for row in rows])]
        first, last = packs[0], packs[-1]
        # Where both are the same pack, a row is found in its first half.
        both = first + last
        return ("shuffle", self.groups[first], self.groups[last], tuple([both.index(row) for row in rows]))

    def do_alone(self, at):
        """Writes a block's row that is in no pack."""
        row = self.source[1][at]
        self.singles[at] = self.write(with_names(row, [self.single(name) for name in names_of(row)]))
        if row[0] != "number":
            self.entries[at] = (self.singles[at], None)

    def do_pack(self, pack):
        """Writes a pack as one wide row."""
        by_lane = [names_of(self.source[1][at]) for at in pack]
        wishes = [tuple([names[spot] for names in by_lane]) for spot in range(len(by_lane[0]))]
        groups = [self.group(rows) for rows in wishes]
        # The first lane's place is that of the wide row.
        self.groups[pack] = self.write(("wide",) + with_names(self.source[1][pack[0]], groups))
        for lane, at in enumerate(pack):
            self.entries[at] = (self.groups[pack], lane)


def lowered(block, lanes, plan):
    """The tuple (program, new list of where each row of the block is done in it)."""
    check_plan(block, lanes, plan)
    nodes = ordered(block, plan)
    if nodes is None:
        raise NotValid(plan)
    draft = Draft(block, plan)
    for node in nodes:
        if node in plan:
            draft.do_pack(node)
        else:
            draft.do_alone(node[0])
    return ((lanes, block[0], tuple(draft.written)), draft.entries)

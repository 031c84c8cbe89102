"""Trees: blocks with ifs, how they run, and how they are flattened to blocks without."""

from lanepacks.blocks import MOST_ROWS, MOST_SURE, is_row, makes_word, may_name, names_of, with_names
from lanepacks.errors import NoCells, NoTree, TooLong
from lanepacks.running import do_row, is_cells
from lanepacks.words import is_whole

MOST_TREE_ROWS = 20
MOST_DEEP = 3

# Where the flattened block of a tree with ifs has the two numbers that its further rows name.
ZERO = 0
ONE = 1


def is_if(thing):
    """Whether a thing of any kind has an if's form; what stands within it is not looked at."""
    if not isinstance(thing, tuple) or len(thing) != 4:
        return False
    return isinstance(thing[0], str) and thing[0] == "if"


def sight_behind_if(thing, able, deep):
    """What `sight_behind` tells of one if."""
    if deep == MOST_DEEP or not may_name(thing[1], able):
        return None
    sight = able + [False]
    for side in thing[2:]:
        within = sight_behind(side, sight, deep + 1)
        if within is None:
            return None
        # What is within a side is out of sight behind it.
        sight = sight + [False] * (len(within) - len(sight))
    return sight


def sight_behind(things, able, deep):
    """Which rows may be named behind a tuple of rows that is so many ifs deep; None, where it is none.

    `able` has a truth for each row ahead of them; what is told has theirs besides.
    """
    if not isinstance(things, tuple):
        return None
    sight = able
    for thing in things:
        if is_if(thing):
            sight = sight_behind_if(thing, sight, deep)
        elif is_row(thing, sight):
            sight = sight + [makes_word(thing)]
        else:
            return None
        if sight is None or len(sight) > MOST_TREE_ROWS:
            return None
    return sight


def is_tree(thing):
    """Whether a thing of any kind is a tree."""
    if not isinstance(thing, tuple) or len(thing) != 2:
        return False
    return is_whole(thing[0], 0, MOST_SURE) and sight_behind(thing[1], [], 0) is not None


def listed(rows, path):
    """The new list of all rows by their numbers, each with the path of the sides that it is within.

    A path is a tuple of (c, whether c's word is other than 0 on this side).
    """
    found = []
    for row in rows:
        found.append((row, path))
        if row[0] == "if":
            found.extend(listed(row[2], path + ((row[1], True),)))
            found.extend(listed(row[3], path + ((row[1], False),)))
    return found


def do_tree(rows, cells):
    """Does the rows of a tree on cells, which it may change: the fault."""
    words = []
    for at, (row, path) in enumerate(listed(rows, ())):
        word, why = None, None
        # A c that was not done has no word; then a side round it is not done either.
        if row[0] != "if" and all([(words[c] != 0) == side for c, side in path]):
            word, why = do_row(row, [words[name] for name in names_of(row)], cells)
        if why is not None:
            return (at, why)
        words.append(word)
    return None


def run_tree(tree, cells):
    """The tuple (new list of cells then, fault)."""
    if not is_tree(tree):
        raise NoTree("this is no tree")
    if not is_cells(cells, tree[0]):
        raise NoCells("these are no cells for the tree")
    then = list(cells)
    fault = do_tree(tree[1], then)
    return (then, fault)


class Flat:
    """The rows of a flattened tree as they are laid, and the number there of each row of the tree.

    A mask is a row whose word is 0 just where the side of an if is not done; None is that of
    what is in no if.
    """

    def __init__(self):
        self.laid = []
        self.numbers = []

    def lay(self, row):
        """Puts a row behind the others: its number."""
        self.laid.append(row)
        return len(self.laid) - 1

    def both(self, mask, c):
        """A row whose word is 0 where that of the mask or of c is."""
        return self.lay(("pick", mask, c, ZERO))

    def lay_rows(self, rows, mask):
        """Lays the rows of one side, or those that are in no if."""
        for row in rows:
            if row[0] == "if":
                self.lay_if(row, ONE if mask is None else mask)
            else:
                moved = with_names(row, [self.numbers[name] for name in names_of(row)])
                self.numbers.append(self.lay(moved if mask is None else self.masked(moved, mask)))

    def lay_if(self, row, mask):
        """Lays the sides of an if, each behind a mask of its own."""
        c = self.numbers[row[1]]
        self.numbers.append(None)
        self.lay_rows(row[2], self.both(mask, c))
        self.lay_rows(row[3], self.lay(("pick", c, ZERO, mask)))

    def masked(self, row, mask):
        """The row that does the same, but touches no cell and doesn't fault where the mask's word is 0."""
        deed = row[0]
        if deed == "load":
            # Where it is not done, what it makes is named by nothing that is.
            return ("take", row[1], mask, mask)
        if deed == "take":
            return ("take", row[1], self.both(mask, row[2]), row[3])
        if deed == "store":
            return ("put", row[1], row[2], mask)
        if deed == "put":
            return ("put", row[1], row[2], self.both(mask, row[3]))
        if deed == "over":
            return ("over", row[1], self.lay(("pick", mask, row[2], ONE)))
        return row


def flattened(tree):
    """The tuple (block, new list with the block's row for each row of the tree, None for an if)."""
    if not is_tree(tree):
        raise NoTree("this is no tree")
    sure, rows = tree
    flat = Flat()
    if any([row[0] == "if" for row in rows]):
        flat.lay(("number", 0))
        flat.lay(("number", 1))
    flat.lay_rows(rows, None)
    if len(flat.laid) > MOST_ROWS:
        raise TooLong("the block would have more than 40 rows")
    return ((sure, tuple(flat.laid)), flat.numbers)

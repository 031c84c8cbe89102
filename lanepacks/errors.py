"""The refusals: PackError, and each of them straight under it."""


class PackError(ValueError):
    """Any refusal."""


class NoBlock(PackError):
    """What was handed in is no block."""


class NoCells(PackError):
    """What was handed in are no cells, or too few or too many."""


class NoRow(PackError):
    """There is no such row; `row` is what was handed in as one."""

    def __init__(self, row):
        # The row may be a thing of any kind, so the text doesn't try to show it.
        PackError.__init__(self, "there is no such row")
        self.row = row


class NoLanes(PackError):
    """What was handed in is no number of lanes."""


class NoPlan(PackError):
    """What was handed in is no plan, or there is none."""


class NoProgram(PackError):
    """What was handed in is no program."""


class NoTree(PackError):
    """What was handed in is no tree."""


class NoLoop(PackError):
    """What was handed in is no loop."""


class NoText(PackError):
    """What was handed in is no text that can be read back."""


class NoName(PackError):
    """There is no such name; `name` is what was handed in as one."""

    def __init__(self, name):
        # As with NoRow, the name may be a thing of any kind.
        PackError.__init__(self, "there is no such name")
        self.name = name


class TooMany(PackError):
    """The block has too many rows for this."""


class TooLong(PackError):
    """What would be made has too many rows for a block."""


class NotValid(PackError):
    """The plan can't be done in any order; `packs` is the plan."""

    def __init__(self, packs):
        PackError.__init__(self, "the plan is not valid")
        self.packs = packs


class Nothing(PackError):
    """There is nothing to be taken back."""

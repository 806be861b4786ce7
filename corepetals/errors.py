"""The refusals of the program."""


class PetalError(ValueError):
    """Any refusal."""


class NoFlower(PetalError):
    """The sets handed in are no flower."""


class NoSet(PetalError):
    """A set is there already, or is not there."""


class NoAsk(PetalError):
    """A line asks nothing that can be answered."""


class NoSets(PetalError):
    """A text is no collection; row is its first wrong row, counted from 0."""

    def __init__(self, row):
        PetalError.__init__(self, f"row {row} is wrong")
        self.row = row

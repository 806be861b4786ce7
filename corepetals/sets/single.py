"""What is asked of a single set and a row of names."""


def has_all(one, row):
    """Whether the set has all names of the row."""
    return all([name in one for name in row])


def meets(one, row):
    """Whether the set has some name of the row."""
    return any([name in one for name in row])


def without_names(one, row):
    """The set without the names of the row."""
    return tuple([name for name in one if name not in row])

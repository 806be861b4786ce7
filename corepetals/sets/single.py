"""What is asked of single sets, of rows of names and of choices among things."""


def has_all(one, row):
    """Whether the set has all names of the row."""
    return all([name in one for name in row])


def meets(one, row):
    """Whether the set has some name of the row."""
    return any([name in one for name in row])


def meet_of(one, other):
    """The names that both sets have."""
    return tuple([name for name in one if name in other])


def without_names(one, row):
    """The set without the names of the row."""
    return tuple([name for name in one if name not in row])


def choices_of(things, many):
    """All tuples of so many of the things, in the order of the things."""
    if many == 0:
        return [()]
    if not 0 < many <= len(things):
        return []
    found = []
    for at, one in enumerate(things):
        found.extend([(one,) + more for more in choices_of(things[at + 1:], many - 1)])
    return found

"""All least rows of names that hit a collection, and collections that are full."""

from corepetals.sets.single import has_all, meets
from corepetals.sets.texts import link_of, without_row


def least_rows(sets):
    """All rows that hit each set, and without any of their names do not, in order."""
    if () in sets:
        return ()
    if not sets:
        return ((),)
    # The first name of the first set is the first of all, so rows with it stand ahead of rows without it.
    name = (sets[0][0],)
    others = without_row(sets, name)
    left = link_of(sets, name)
    # A row that hits what is left of the sets that have the name does not need it.
    with_it = [name + row for row in least_rows(others) if not hits(row, left)]
    # What hits a set hits those that have all its names, so these go, or they would be far too many.
    needed = [one for one in others if not has_some_set(one, left)]
    without_it = least_rows(tuple(sorted(needed + list(left))))
    return tuple(with_it) + without_it


def hits(row, sets):
    """Whether the row has a name of each set."""
    return all([meets(one, row) for one in sets])


def each_two_meet(sets):
    """Whether each two of the sets meet."""
    return all([meets(one, other) for at, one in enumerate(sets) for other in sets[:at]])


def is_full(sets):
    """Whether each two sets meet, each has names, and each least row has all names of a set."""
    if not sets or () in sets or not each_two_meet(sets):
        return False
    return all([has_some_set(row, sets) for row in least_rows(sets)])


def has_some_set(row, sets):
    """Whether the row has all names of some of the sets."""
    return any([has_all(row, one) for one in sets])

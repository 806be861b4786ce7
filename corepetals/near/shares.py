"""Near flowers by shares: names taken each by itself, and collections that are spread."""

from corepetals.sets.single import choices_of, has_all, without_names
from corepetals.sets.texts import link_of, names_of, without_row


def share_taken(sets, share):
    """The share that some set has all its names taken, each name by itself with the share handed in."""
    names = names_of(sets)
    return least_numbers(taken_of(sets, names, share), to_the(share[1], len(names)))


def taken_of(sets, names, share):
    """The upper number of what share_taken tells, where the lower is the share's own to as many as the names.

    The names are all that the sets have, perhaps more, in order.
    """
    if () in sets:
        return to_the(share[1], len(names))
    if not sets:
        return 0
    name = (names[0],)
    with_it = sorted({without_names(one, name) for one in sets})
    taken = taken_of(with_it, names[1:], share)
    left = taken_of(without_row(sets, name), names[1:], share)
    return share[0] * taken + (share[1] - share[0]) * left


def to_the(number, times):
    """The number so many times as a factor, 1 of none."""
    told = 1
    for turn in range(times):
        told = told * number
    return told


def least_numbers(above, below):
    """The fraction without a common divisor but 1."""
    divisor, rest = below, above
    while rest:
        divisor, rest = rest, divisor % rest
    return above // divisor, below // divisor


def is_near(sets, core, share, less):
    """Whether each set has the core, one at least, and they are taken beside it by more than 1 less the last."""
    link = link_of(sets, core)
    if not sets or len(link) < len(sets):
        return False
    above, below = share_taken(link, share)
    return above * less[1] > (less[1] - less[0]) * below


def not_spread(sets, r):
    """The first row, fewest names ahead, that too many sets have for them to be spread at r, or None."""
    weight = 1
    for many in range(1, max([len(one) for one in sets], default=0) + 1):
        weight = weight * r
        for row in rows_had(sets, many):
            if len([one for one in sets if has_all(one, row)]) * weight > len(sets):
                return row
    return None


def rows_had(sets, many):
    """The rows of so many names that some set has, in order."""
    return sorted({row for one in sets for row in choices_of(one, many)})

"""Rows of names that hit collections, and collections thinned that the same rows hit."""

from corepetals.found.exact import first_flower
from corepetals.sets.flowers import core_of
from corepetals.sets.texts import names_of, without_row


def least_row(sets):
    """The row of fewest names that hits each set, of several the first, or None where a set has no names."""
    if () in sets:
        return None
    row = None
    many = 0
    # All names together hit, so some number of names is enough.
    while row is None:
        row = row_that_hits(sets, "", many)
        many += 1
    return row


def row_that_hits(sets, behind, many):
    """The first row of at most so many names, all behind the one told, that hits each set, or None."""
    if not sets:
        return ()
    if many == 0:
        return None
    # A row that begins behind the last name of a set never hits that set.
    last = min([one[-1] for one in sets])
    beginnings = [name for name in names_of(sets) if behind < name <= last]
    for name in beginnings:
        more = row_that_hits(without_row(sets, (name,)), name, many - 1)
        if more is not None:
            return (name,) + more
    return None


def thinned(sets, t):
    """The collection that is left when flowers of t + 1 sets go and their cores come, and how many went."""
    left = sets
    went = 0
    flower = first_to_go(left, t)
    while flower is not None:
        left = with_core_instead(left, flower)
        went += 1
        flower = first_to_go(left, t)
    return left, went


def first_to_go(sets, t):
    """The first flower of t + 1 sets, or None; of t 0 the first set that has names, alone."""
    if t == 0:
        return min([(one,) for one in sets if one], default=None)
    return first_flower(sets, t + 1)


def with_core_instead(sets, flower):
    """The collection without the flower's sets, its core among the others."""
    # The core of one set alone, which is no flower elsewhere, is here the set of no names.
    core = core_of(flower) if len(flower) > 1 else ()
    left = [one for one in sets if one not in flower]
    return tuple(sorted(set(left + [core])))

"""Flowers found by the told way, and how many sets are enough for it."""

from corepetals.sets.single import meets
from corepetals.sets.texts import link_of, names_of


def flower_by_way(sets, many):
    """The flower that the way finds, or None, and the trace of its steps."""
    left = sets
    taken = ()
    trace = []
    chosen = chosen_of(left)
    while len(chosen) < many and any(chosen):
        name = most_had(left, names_of(chosen))
        trace.append((len(chosen), name, len(left)))
        taken = taken + (name,)
        left = link_of(left, (name,))
        chosen = chosen_of(left)
    trace.append((len(chosen), None, len(left)))
    if len(chosen) < many:
        return None, tuple(trace)
    return put_again(chosen[:many], taken), tuple(trace)


def chosen_of(sets):
    """The sets chosen in order, each that meets none of those chosen."""
    chosen = []
    for one in sets:
        if not any([meets(one, other) for other in chosen]):
            chosen.append(one)
    return tuple(chosen)


def most_had(sets, names):
    """The name that most sets have, of several the first."""
    # Of several that are as great max tells the first.
    return max(names, key=lambda name: how_many_have(sets, name))


def how_many_have(sets, name):
    """How many of the sets have the name."""
    return len([one for one in sets if name in one])


def put_again(chosen, taken):
    """The sets with the names taken out put to each again, in order."""
    # With these names the sets may stand in another order than they were chosen in.
    return tuple(sorted([tuple(sorted(one + taken)) for one in chosen]))


def enough_sets(k, many):
    """k! times (many less one) to the k: of one set more of k names each the way finds a flower."""
    number = 1
    for factor in range(1, k + 1):
        number = number * factor * (many - 1)
    return number

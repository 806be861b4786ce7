"""The tree of cores: levels of a collection, each the cores of the one ahead and its sets in no flower."""

from corepetals.found.exact import cores_of_two, count_with_core
from corepetals.sets.single import has_all, meet_of, meets, without_names
from corepetals.sets.texts import link_of, names_of, without_row


def next_level(sets, many):
    """All cores of flowers of so many sets, and the sets that are in none."""
    # Fewer than two sets are no flower.
    if many < 2:
        return sets
    cores = [core for core in cores_of_two(sets) if so_many_apart(link_of(sets, core), many)]
    left = [one for one in sets if not in_flower(sets, many, one)]
    return tuple(sorted(set(cores + left)))


def in_flower(sets, many, one):
    """Whether some flower of so many of the sets has this one."""
    others = without_names(sets, (one,))
    for core in sorted({meet_of(one, other) for other in others}):
        beside = without_row(link_of(others, core), without_names(one, core))
        if so_many_apart(beside, many - 1):
            return True
    return False


def so_many_apart(sets, many):
    """Whether there are so many of the sets of which no two meet."""
    if many == 0:
        return True
    shortest = sorted([len(one) for one in sets])[:many]
    if len(shortest) < many or sum(shortest) > len(names_of(sets)):
        return False
    one = min(sets, key=len)
    # Where none that meets the shortest is among them it may be put in the place of any,
    # and it may in the place of one that has all its names.
    instead = [other for other in sets if meets(other, one) and not has_all(other, one)]
    for chosen in [one] + instead:
        if so_many_apart(without_row(without_names(sets, (chosen,)), chosen), many - 1):
            return True
    return False


def levels_of(sets, many, most):
    """The levels, the collection first, till one is the next of itself, at most so many."""
    levels = [sets]
    while len(levels) < most:
        level = next_level(levels[-1], many)
        if level == levels[-1]:
            return levels
        levels.append(level)
    return levels


def core_count(sets, many, core):
    """How many flowers of so many sets have just this core."""
    return count_with_core(sets, many, core)

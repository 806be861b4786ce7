"""Flowers: their cores, their petals, and a looker."""

from corepetals.errors import NoFlower
from corepetals.sets.single import without_names


def core_of(some):
    """The names in which each two of the sets meet, or None where they are no flower."""
    if len(some) < 2 or len(set(some)) < len(some):
        return None
    core = names_of_all(some)
    # Two sets that meet beside the core leave a name twice.
    left = [name for one in some for name in without_names(one, core)]
    return core if len(set(left)) == len(left) else None


def names_of_all(some):
    """The names that each of the sets has, one set at least."""
    return tuple([name for name in some[0] if all([name in one for one in some])])


def petals_of(some):
    """Each set without the core; NoFlower where the sets are none."""
    core = core_of(some)
    if core is None:
        raise NoFlower("the sets are no flower")
    return tuple([without_names(one, core) for one in some])


def flower_shown(sets, many, some):
    """Whether these are so many sets of the collection, in order, each once, and a flower."""
    if len(some) != many or not all([one in sets for one in some]):
        return False
    # A set that stands twice is no flower for core_of, so order alone is asked here.
    return list(some) == sorted(some) and core_of(some) is not None

"""Flowers told exactly: the greatest, all of so many sets, the most sets apart."""

from corepetals.sets.flowers import core_of
from corepetals.sets.single import choices_of, has_all, meet_of, meets, without_names
from corepetals.sets.texts import link_of


def greatest_flower(sets):
    """The flower of the most sets, of several the first, or None of fewer than two sets."""
    found = [most_beside(sets, core) for core in cores_of_two(sets)]
    return first_of_longest(found, None)


def first_of_longest(found, otherwise):
    """The longest of the tuples found, of several the first, or where none is found the other thing told."""
    return min(found, key=lambda some: (-len(some), some), default=otherwise)


def count_flowers(sets, many):
    """How many flowers of so many sets there are."""
    return sum([count_with_core(sets, many, core) for core in cores_of_two(sets)])


def count_with_core(sets, many, core):
    """How many flowers of so many sets have just this core."""
    # They are the choices of so many sets that beside the core are apart.
    return count_apart(link_of(sets, core), many) if many >= 2 else 0


def count_apart(sets, many):
    """How many choices of so many of the sets, which stand in order, there are of which no two meet."""
    # Counted together are choices as many that leave the same names to the sets behind: there may be
    # far more choices than can be gone through one by one.
    counted = {(0, ()): 1}
    for one in sets:
        ways = {}
        for (size, taken), number in counted.items():
            # No set from here on has a name ahead of this one's first.
            shut = tuple([name for name in taken if (name,) >= one[:1]])
            ways[size, shut] = ways.get((size, shut), 0) + number
            if size < many and not meets(one, shut):
                longer = (size + 1, tuple(sorted(shut + one)))
                ways[longer] = ways.get(longer, 0) + number
        counted = ways
    return sum([number for (size, taken), number in counted.items() if size == many])


def most_apart(sets):
    """The most sets of which no two meet, of several such tuples the first."""
    return most_beside(sets, ())


def first_flower(sets, many):
    """The first flower of so many sets, or None."""
    return min(flowers_of(sets, many), default=None)


def flowers_of(sets, many):
    """All flowers of so many sets, each in order, the flowers in order too."""
    if many < 2:
        return []
    # The first sets of a flower are one, so none is missed by putting sets behind smaller ones.
    flowers = choices_of(sets, 2)
    for size in range(2, many):
        longer = [some + (one,) for some in flowers for one in sets if some[-1] < one]
        flowers = [some for some in longer if core_of(some) is not None]
    return flowers


def cores_of_two(sets):
    """The cores of all flowers: any two sets of one have its core."""
    return sorted({meet_of(one, other) for one, other in choices_of(sets, 2)})


def most_beside(sets, core):
    """The most sets that have the core and of which no two meet beside it, of several the first."""
    having = tuple([one for one in sets if has_all(one, core)])
    meeting = [pair for pair in choices_of(having, 2) if meet_of(pair[0], pair[1]) != core]
    return most_free(having, meeting, -1)


def most_free(things, barred, over):
    """The most of the things, more than over, that hold no barred tuple (of two at least), or None.

    Of several the first: things and what is told stand in the order of the things.
    """
    if len(things) <= over:
        return None
    if not barred:
        return things
    one = things[0]
    best = most_free_with(one, things[1:], barred, over)
    if best is not None:
        over = len(best)
    # Those without the first stand behind those with it, so they must be more.
    other = most_free(things[1:], [some for some in barred if one not in some], over)
    return best if other is None else other


def most_free_with(one, things, barred, over):
    """As most_free tells, of the one and the things behind it, the one among them."""
    shorter = [without_names(some, (one,)) for some in barred]
    shut_out = [some[0] for some in shorter if len(some) == 1]
    more = most_free(
        without_names(things, shut_out),
        [some for some in shorter if not meets(some, shut_out)],
        over - 1,
    )
    return None if more is None else (one,) + more

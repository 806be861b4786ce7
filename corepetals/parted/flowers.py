"""Collections parted in flowers, each part one set alone or a flower."""

from corepetals.found.exact import flowers_of, most_free
from corepetals.sets.flowers import core_of
from corepetals.sets.single import without_names


def fewest_parts(sets):
    """The parting of fewest parts, of several the first."""
    many = bound_below(sets)
    parts = parting_of(sets, many)
    # Each set alone is a part, so some number of parts is enough.
    while parts is None:
        many += 1
        parts = parting_of(sets, many)
    return parts


def parting_of(sets, many):
    """The first parting of at most so many parts, or None."""
    if not sets:
        return ()
    if many == 0:
        return None
    # The first set is always in the first part.
    for part in parts_from(sets[:1], sets[1:]):
        more = parting_of(without_names(sets, part), many - 1)
        if more is not None:
            return (part,) + more
    return None


def parts_from(part, others):
    """All parts that begin as this one and go on with some of the others, in order."""
    found = [part]
    for at, one in enumerate(others):
        longer = part + (one,)
        # What begins with no part is none.
        if is_part(longer):
            found.extend(parts_from(longer, others[at + 1:]))
    return found


def is_part(part):
    """Whether the sets are one alone or a flower."""
    return len(part) == 1 or core_of(part) is not None


def parting_shown(sets, parts):
    """Whether the parts, in any order, are a parting of the collection in flowers."""
    written = sorted([one for part in parts for one in part])
    return written == list(sets) and all([is_part(part) for part in parts])


def bound_below(sets):
    """A number of parts that are needed at least: of sets without a flower of three a part has at most two."""
    most = most_free(sets, flowers_of(sets, 3), -1)
    return (len(most) + 1) // 2

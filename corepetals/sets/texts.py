"""Collections: read, written, and their parts by a row of names."""

from corepetals.errors import NoSets
from corepetals.sets.single import has_all, meets, without_names

LETTERS = "abcdefghijklmnopqrstuvwxyz"
LONGEST_NAME = 8
NO_NAMES = "-"


def read_sets(text):
    """The collection that the text tells; NoSets with its first wrong row."""
    # A text without signs has no row at all, though split tells one.
    if text == "":
        return ()
    seen = set()
    for at, row in enumerate(text.split("\n")):
        one = read_row(row)
        if one is None or one in seen:
            raise NoSets(at)
        seen.add(one)
    return tuple(sorted(seen))


def read_row(row):
    """The set that a row of a text tells, or None where it tells none."""
    if row == NO_NAMES:
        return ()
    # Outer and doubled blanks, and the empty row, leave an empty word, which is no name.
    names = row.split(" ")
    if not all([is_name(name) for name in names]):
        return None
    if len(set(names)) < len(names):
        return None
    return tuple(sorted(names))


def is_name(word):
    """Whether the word is one to eight small letters."""
    # The letters are written out, for Python's own tests let other scripts' letters pass.
    return 1 <= len(word) <= LONGEST_NAME and all([sign in LETTERS for sign in word])


def sets_shown(sets):
    """The text of a collection."""
    return "\n".join([row_shown(one) for one in sets])


def row_shown(one):
    """The row that a set is written as."""
    return " ".join(one) if one else NO_NAMES


def names_of(sets):
    """All names of a collection, in order."""
    return tuple(sorted({name for one in sets for name in one}))


def link_of(sets, row):
    """The sets that have all names of the row, without these."""
    # Without the row's names the sets may stand in another order.
    return tuple(sorted([without_names(one, row) for one in sets if has_all(one, row)]))


def without_row(sets, row):
    """The sets that have none of the row's names."""
    return tuple([one for one in sets if not meets(one, row)])

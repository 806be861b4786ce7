"""The most sets of so many names that hold no flower."""

from corepetals.found.exact import flowers_of, most_free
from corepetals.sets.single import choices_of
from corepetals.sets.texts import LETTERS


def most_without(names, k, many):
    """The most sets of k of the first letters without a flower of so many, and the first such collection."""
    sets = tuple(choices_of(tuple(LETTERS[:names]), k))
    most = most_free(sets, flowers_of(sets, many), -1)
    return len(most), most

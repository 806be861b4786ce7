"""Collections that are kept while sets come and go."""

from corepetals.errors import NoSet
from corepetals.found.exact import first_flower, flowers_of


class KeptSets:
    """A collection that begins without sets, for flowers of so many."""

    def __init__(self, many):
        self.many = many
        self.sets = ()

    def put_set(self, one):
        """Puts the set in, and tells the first flower that has it, or None; NoSet where it is there already."""
        if one in self.sets:
            raise NoSet("the set is there already")
        self.sets = tuple(sorted(self.sets + (one,)))
        having = [some for some in flowers_of(self.sets, self.many) if one in some]
        return min(having, default=None)

    def take_set(self, one):
        """Takes the set out; NoSet where it is not there."""
        if one not in self.sets:
            raise NoSet("the set is not there")
        self.sets = tuple([other for other in self.sets if other != one])

    def sets_now(self):
        """The collection as it is now."""
        return self.sets

    def has_flower(self):
        """Whether the collection has any flower of so many sets."""
        return first_flower(self.sets, self.many) is not None

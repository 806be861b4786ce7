"""Two tuples of sets that go across: at one place they never meet, at two unlike places always."""

from corepetals.errors import NoFlower
from corepetals.near.shares import least_numbers
from corepetals.sets.single import choices_of, meets

LONGEST = 5


def go_across(one, other):
    """Whether the two tuples are as long and go across."""
    return len(one) == len(other) and all([fits(one, at, right) for at, right in enumerate(other)])


def fits(one, at, right):
    """Whether the set meets all sets of the tuple but the one at this place."""
    return all([meets(left, right) == (place != at) for place, left in enumerate(one)])


def across_sum(one, other):
    """The sum of 1 over the ways to choose the first set's many names out of both sets'; NoFlower if not across."""
    if not go_across(one, other):
        raise NoFlower("the tuples do not go across")
    above, below = 0, 1
    for left, right in zip(one, other):
        ways = ways_to_choose(len(left), len(right))
        above, below = above * ways + below, below * ways
    return least_numbers(above, below)


def ways_to_choose(many, others):
    """How many ways there are to choose so many things where there are so many others."""
    ways = 1
    for factor in range(1, many + 1):
        ways = ways * (others + factor) // factor
    return ways


def longest_across(sets):
    """The longest pair of tuples of the sets, at most 5 long, that go across, of several the first."""
    for many in range(LONGEST, 0, -1):
        # In another order the first tuple would stand behind, so the choices in order are enough.
        for one in choices_of(sets, many):
            other = first_other(sets, one)
            if other is not None:
                return one, other
    return (), ()


def first_other(sets, one):
    """The first tuple of the sets that goes across with the one, or None."""
    found = []
    for at in range(len(one)):
        # What fits at a place fits at no other one, so the places don't hang on one another.
        fitting = [right for right in sets if fits(one, at, right)]
        if not fitting:
            return None
        found.append(fitting[0])
    return tuple(found)

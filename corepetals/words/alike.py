"""Sets of which each two meet in as many names."""

from corepetals.found.exact import first_of_longest, most_free
from corepetals.sets.single import choices_of, meet_of


def meet_in(some):
    """In how many names each two of the sets meet, or None where it is not one number for all."""
    numbers = numbers_met(choices_of(some, 2))
    return numbers[0] if len(numbers) == 1 else None


def numbers_met(pairs):
    """The numbers of names in which the pairs of sets meet, each once, in order."""
    return sorted({len(meet_of(one, other)) for one, other in pairs})


def most_alike(sets):
    """The most sets of which each two meet in one number of names, of several such tuples the first."""
    pairs = choices_of(sets, 2)
    found = [most_met_in(sets, pairs, number) for number in numbers_met(pairs)]
    # Of fewer than two sets there is no number, and all of them are told.
    return first_of_longest(found, sets)


def most_met_in(sets, pairs, number):
    """The most sets of which each two, which are among the pairs, meet in this number of names."""
    barred = [(one, other) for one, other in pairs if len(meet_of(one, other)) != number]
    return most_free(sets, barred, -1)


def surely_number(k):
    """Of more sets of k names each that meet two by two in one number of names all are a flower."""
    return k * k - k + 1


def is_surely(sets):
    """Whether the collection is a flower by its many sets alone."""
    lengths = sorted({len(one) for one in sets})
    if len(lengths) != 1 or lengths[0] == 0:
        return False
    return len(sets) > surely_number(lengths[0]) and meet_in(sets) is not None

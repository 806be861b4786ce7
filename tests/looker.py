"""Slow and plain second tellings of the promises, and collections to try them on."""

import math
from copy import deepcopy
from fractions import Fraction
from itertools import combinations, permutations, product


def core_by_pairs(some):
    """The core as the document words it: each two sets meet in just the same names."""
    if len(some) < 2 or any(one == other for one, other in combinations(some, 2)):
        return None
    cores = {frozenset(one) & frozenset(other) for one, other in combinations(some, 2)}
    return tuple(sorted(cores.pop())) if len(cores) == 1 else None


def flowers_by_choices(sets, many):
    return [some for some in combinations(sets, many) if core_by_pairs(some) is not None]


def has_flower(sets, many):
    return bool(flowers_by_choices(sets, many))


def greatest_by_choices(sets):
    for many in range(len(sets), 1, -1):
        flowers = flowers_by_choices(sets, many)
        if flowers:
            return min(flowers)
    return None


def apart_by_choices(sets):
    for many in range(len(sets), -1, -1):
        found = [some for some in combinations(sets, many)
                 if all(set(one).isdisjoint(other) for one, other in combinations(some, 2))]
        if found:
            return min(found)


def most_without_by_choices(things, barred):
    """The first of the longest tuples of the things that hold no barred tuple."""
    bits = {one: 1 << at for at, one in enumerate(things)}
    masks = [sum(bits[one] for one in some) for some in barred]
    for many in range(len(things), -1, -1):
        for some in combinations(things, many):
            whole = sum(bits[one] for one in some)
            if not any(whole & mask == mask for mask in masks):
                return some


def hits(row, sets):
    return all(set(row) & set(one) for one in sets)


def least_by_choices(names, sets):
    for many in range(len(names) + 1):
        found = [row for row in combinations(names, many) if hits(row, sets)]
        if found:
            return min(found)
    return None


def thinned_by_words(sets, t):
    """Thinned step by step, over bags of names; all collections on the way, the first and the last among them."""
    left = {frozenset(one) for one in sets}
    steps = [tuple(sets)]
    while True:
        rows = sorted(tuple(sorted(one)) for one in left)
        flowers = flowers_by_choices(rows, t + 1) if t else [(one,) for one in rows if one]
        if not flowers:
            return steps
        core = core_by_pairs(min(flowers)) if t else ()
        left = left - {frozenset(one) for one in min(flowers)} | {frozenset(core)}
        steps.append(tuple(sorted(tuple(sorted(one)) for one in left)))


def share_by_choices(names, sets, share):
    """The sum over all rows of names that may be the taken ones."""
    share = Fraction(*share)
    told = Fraction(0)
    for many in range(len(names) + 1):
        have = sum(any(set(one) <= set(row) for one in sets) for row in combinations(names, many))
        told += have * share ** many * (1 - share) ** (len(names) - many)
    return told.numerator, told.denominator


def not_spread_by_choices(names, sets, r):
    for many in range(1, len(names) + 1):
        for row in combinations(names, many):
            if sum(set(row) <= set(one) for one in sets) * r ** many > len(sets):
                return row
    return None


def least_rows_by_choices(names, sets):
    """All rows of the names that hit, and without any one of their names do not."""
    rows = [row for many in range(len(names) + 1) for row in combinations(names, many) if hits(row, sets)]
    hitting = set(rows)
    return tuple(sorted(row for row in rows
                        if not any(row[:at] + row[at + 1:] in hitting for at in range(len(row)))))


def meet_by_pairs(sets):
    return all(set(one) & set(other) for one, other in combinations(sets, 2))


def full_by_choices(names, sets):
    return (bool(sets) and all(sets) and meet_by_pairs(sets)
            and all(any(set(one) <= set(row) for one in sets) for row in least_rows_by_choices(names, sets)))


def across_by_words(one, other):
    if len(one) != len(other):
        return False
    never = all(not set(left) & set(right) for left, right in zip(one, other))
    always = all(set(one[at]) & set(other[place]) for at, place in permutations(range(len(one)), 2))
    return never and always


def across_sum_by_words(one, other):
    told = sum((Fraction(math.factorial(len(left)) * math.factorial(len(right)),
                         math.factorial(len(left) + len(right))) for left, right in zip(one, other)), Fraction(0))
    return told.numerator, told.denominator


def longest_across_by_choices(sets, longest=5):
    """The first of all longest pairs, in whatever order their places are, put together place by place."""
    found = [((), ())]
    for _ in range(longest):
        longer = [(one + (left,), other + (right,)) for one, other in found for left in sets for right in sets]
        longer = [pair for pair in longer if across_by_words(*pair)]
        if not longer:
            break
        found = longer
    return min(found)


def next_level_by_choices(sets, many):
    flowers = flowers_by_choices(sets, many)
    cores = {core_by_pairs(some) for some in flowers}
    return tuple(sorted(cores | {one for one in sets if not any(one in some for some in flowers)}))


def levels_by_choices(sets, many, most):
    """All levels till one stays as it is, of which at most so many are told."""
    levels = [sets]
    while next_level_by_choices(levels[-1], many) != levels[-1]:
        levels.append(next_level_by_choices(levels[-1], many))
    return levels[:most]


def row_by_words(some):
    """At each place all one letter, or all unlike ones."""
    return len(some) >= 2 and all(len(set(letters)) in (1, len(some)) for letters in zip(*some))


def first_row_by_choices(words, many):
    return min((some for some in combinations(words, many) if row_by_words(some)), default=None)


def words_by_choices(length, letters):
    return tuple(sorted("".join(letters) for letters in product("abcdefghi"[:letters], repeat=length)))


def met_by_pairs(some):
    numbers = {len(set(one) & set(other)) for one, other in combinations(some, 2)}
    return numbers.pop() if len(numbers) == 1 else None


def alike_by_choices(sets):
    for many in range(len(sets), 1, -1):
        found = [some for some in combinations(sets, many) if met_by_pairs(some) is not None]
        if found:
            return min(found)
    return tuple(sets)


def all_partings(sets):
    """All ways to part the sets, flowers or not, each part and the parts in order."""
    if not sets:
        return [()]
    found = []
    for parts in all_partings(sets[:-1]):
        found.append(parts + (sets[-1:],))
        for at, part in enumerate(parts):
            found.append(parts[:at] + (part + sets[-1:],) + parts[at + 1:])
    return found


def parting_by_words(sets, parts):
    together = sorted(one for part in parts for one in part)
    return together == list(sets) and all(len(part) == 1 or core_by_pairs(part) is not None for part in parts)


def fewest_by_choices(sets):
    found = [tuple(sorted(parts)) for parts in all_partings(sets) if parting_by_words(sets, parts)]
    return min(found, key=lambda parts: (len(parts), parts))


def bound_by_choices(sets):
    return -(-len(most_without_by_choices(sets, flowers_by_choices(sets, 3))) // 2)


def is_collection(thing):
    return (isinstance(thing, tuple)
            and all(isinstance(one, tuple) for one in thing)
            and all(list(one) == sorted(set(one)) for one in thing)
            and list(thing) == sorted(set(thing)))


def way_by_words(sets, many):
    """The told way, step by step, over bags of names."""
    left = [frozenset(one) for one in sets]
    taken = frozenset()
    trace = []
    while True:
        left.sort(key=sorted)
        chosen = []
        for one in left:
            if all(one.isdisjoint(other) for other in chosen):
                chosen.append(one)
        if len(chosen) >= many:
            trace.append((len(chosen), None, len(left)))
            flower = sorted(tuple(sorted(one | taken)) for one in chosen[:many])
            return tuple(flower), tuple(trace)
        names = frozenset().union(*chosen)
        if not names:
            trace.append((len(chosen), None, len(left)))
            return None, tuple(trace)
        counted = {name: sum(name in one for one in left) for name in names}
        most = max(counted.values())
        name = min(name for name in names if counted[name] == most)
        trace.append((len(chosen), name, len(left)))
        left = [one - {name} for one in left if name in one]
        taken = taken | {name}


class Asking:
    """For test cases: what is handed in stays as it was, and asked again the same is told."""

    def asked(self, deed, *things):
        before = deepcopy(things)
        told = deed(*things)
        kept = deepcopy(told)
        self.assertEqual(before, things)
        self.assertEqual(repr(kept), repr(deed(*before)))
        self.assertEqual(repr(kept), repr(told))
        return told

    def tells(self, told, deed, *things):
        # As texts they are alike only where lists and tuples, numbers and truths are alike too.
        self.assertEqual(repr(told), repr(self.asked(deed, *things)), (deed.__name__, things))


class Picker:
    """Numbers that look mixed, but are the same in every run."""

    def __init__(self, seed):
        self.state = seed

    def below(self, bound):
        self.state = (self.state * 6364136223846793005 + 1442695040888963407) % (1 << 64)
        return (self.state >> 33) % bound

    def some_of(self, things, many):
        things = list(things)
        return [things.pop(self.below(len(things))) for _ in range(many)]

    def one_set(self, names, least, most):
        many = least + self.below(most - least + 1)
        return tuple(sorted(self.some_of(names, many)))

    def collection(self, names, tries, least=0, most=6):
        return tuple(sorted({self.one_set(names, least, most) for _ in range(tries)}))

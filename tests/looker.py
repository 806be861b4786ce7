"""Slow and plain second tellings of the promises, and collections to try them on."""

from itertools import combinations


def core_by_pairs(some):
    """The core as the document words it: each two sets meet in just the same names."""
    if len(some) < 2 or any(one == other for one, other in combinations(some, 2)):
        return None
    cores = {frozenset(one) & frozenset(other) for one, other in combinations(some, 2)}
    return tuple(sorted(cores.pop())) if len(cores) == 1 else None


def has_flower(sets, many):
    return any(core_by_pairs(some) is not None for some in combinations(sets, many))


def is_collection(thing):
    return (isinstance(thing, tuple)
            and all(isinstance(one, tuple) for one in thing)
            and all(list(one) == sorted(set(one)) for one in thing)
            and list(thing) == sorted(set(thing)))


def way_by_words(sets, many):
    """The told way, step by step, over bags of names."""
    left = [frozenset(one) for one in sets]
    taken = frozenset()
    trace = []
    while True:
        left.sort(key=sorted)
        chosen = []
        for one in left:
            if all(one.isdisjoint(other) for other in chosen):
                chosen.append(one)
        if len(chosen) >= many:
            trace.append((len(chosen), None, len(left)))
            flower = sorted(tuple(sorted(one | taken)) for one in chosen[:many])
            return tuple(flower), tuple(trace)
        names = frozenset().union(*chosen)
        if not names:
            trace.append((len(chosen), None, len(left)))
            return None, tuple(trace)
        counted = {name: sum(name in one for one in left) for name in names}
        most = max(counted.values())
        name = min(name for name in names if counted[name] == most)
        trace.append((len(chosen), name, len(left)))
        left = [one - {name} for one in left if name in one]
        taken = taken | {name}


class Picker:
    """Numbers that look mixed, but are the same in every run."""

    def __init__(self, seed):
        self.state = seed

    def below(self, bound):
        self.state = (self.state * 6364136223846793005 + 1442695040888963407) % (1 << 64)
        return (self.state >> 33) % bound

    def some_of(self, things, many):
        things = list(things)
        return [things.pop(self.below(len(things))) for _ in range(many)]

    def one_set(self, names, least, most):
        many = least + self.below(most - least + 1)
        return tuple(sorted(self.some_of(names, many)))

    def collection(self, names, tries, least=0, most=6):
        return tuple(sorted({self.one_set(names, least, most) for _ in range(tries)}))

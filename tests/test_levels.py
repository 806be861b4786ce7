import math
import unittest
from itertools import combinations

from corepetals.found.exact import count_flowers, count_with_core
from corepetals.found.levels import core_count, levels_of, next_level
from corepetals.sets.texts import read_sets
from looker import (Asking, Picker, core_by_pairs, flowers_by_choices, has_flower, is_collection, levels_by_choices,
                    next_level_by_choices)

NAMES = tuple("abcdefghijkl")
PAIRS_OF_FOUR = "a b\na c\na d\nb c\nb d\nc d"
UP_TO_TWO = tuple(sorted(one for many in range(3) for one in combinations(NAMES, many)))


def drawn(seed, turns, most_sets=9):
    picker = Picker(seed)
    for turn in range(turns):
        names = NAMES[:2 + turn % 11]
        most = min(len(names), 1 + picker.below(6))
        sets = picker.collection(names, picker.below(most_sets + 1), picker.below(2), most)
        if turn % 3 == 0:
            # With one of two names in each, cores have names.
            sets = tuple(sorted({tuple(sorted({NAMES[picker.below(2)], *one})) for one in sets}))
        yield sets


def apart_of_up_to_two(many):
    """How many choices of so many of the single names and pairs there are of which no two meet."""
    told = 0
    for pairs in range(many + 1):
        if 2 * pairs + many - pairs <= 12:
            matched = math.factorial(2 * pairs) // (2 ** pairs * math.factorial(pairs))
            told += math.comb(12, 2 * pairs) * matched * math.comb(12 - 2 * pairs, many - pairs)
    return told


class NextLevel(Asking, unittest.TestCase):
    def next(self, text, many, told):
        self.tells(read_sets(told), next_level, read_sets(text), many)

    def test_none_and_one_set(self):
        for many in range(2, 7):
            self.next("", many, "")
            self.next("-", many, "-")
            self.next("a b", many, "a b")

    def test_flowers_of_two(self):
        self.next("a\nb", 2, "-")
        self.next("a\na b", 2, "a")
        self.next("a b\na c\nb c", 2, "a\nb\nc")
        self.next("-\na\na b", 2, "-\na")

    def test_flowers_of_three(self):
        self.next(PAIRS_OF_FOUR, 3, "a\nb\nc\nd")
        self.next("a b\na c\nb c", 3, "a b\na c\nb c")
        self.next("-\na\nb", 3, "-")
        self.next("-\na\nb\na b", 3, "-\na b")

    def test_sets_in_none_stay(self):
        self.next("a b\na c\na d\nx y", 3, "a\nx y")
        self.next("a b\na c\na d\nb c d", 3, "a\nb c d")
        self.next("-\na b\na c\na d", 3, "-\na")

    def test_sets_in_one_of_several_flowers(self):
        # b z is in no flower of a, but in one of z.
        self.next("a b\na c\na d\nb z\ne z\nf z", 3, "a\nz")
        self.next("a z\nb z\nc z\na x\nb x\nc x", 3, "x\nz")

    def test_core_that_is_a_set(self):
        self.next("a\na b\na c\na d", 3, "a")
        self.next("a\na b\na c\na d", 4, "a")
        self.next("a\na b\na c\na d", 5, "a\na b\na c\na d")
        # The set of no names is the core of the others, itself among them.
        self.next("-\na\nb\nc", 4, "-")
        self.next("-\na\nb\nc", 3, "-")

    def test_none_of_so_many(self):
        for many in (4, 5, 6):
            self.next(PAIRS_OF_FOUR, many, PAIRS_OF_FOUR)

    def test_fewer_than_two_are_no_flower(self):
        for many in (0, 1):
            self.next(PAIRS_OF_FOUR, many, PAIRS_OF_FOUR)
            self.tells(0, core_count, read_sets(PAIRS_OF_FOUR), many, ())
            self.tells(0, count_flowers, read_sets(PAIRS_OF_FOUR), many)

    def test_flowers_that_the_shortest_sets_are_not_in(self):
        # The shortest set meets two that are apart; only these two are in a flower of four.
        self.next("b c\na b g\nc d h\ne f i\nj k l", 4, "-\nb c")
        self.next("a b\na c d\nb e f\ng h i\nj k l", 4, "-\na b")
        self.next("a b\na b c\nd e\nf g", 3, "-")

    def test_against_all_choices(self):
        seen = set()
        for turn, sets in enumerate(drawn(61, 300)):
            for many in range(2, 7):
                told = self.asked(next_level, sets, many)
                self.assertTrue(is_collection(told))
                self.assertEqual(next_level_by_choices(sets, many), told, (sets, many))
                seen.add((many, told == sets, bool(set(told) & set(sets))))
        self.assertLessEqual({(many, False, kept) for many in range(2, 6) for kept in (True, False)}, seen)

    def test_fourteen_sets(self):
        picker = Picker(62)
        for least, most in ((1, 2), (2, 2), (2, 3), (3, 4), (5, 6), (6, 6)):
            sets = picker.collection(NAMES, 40, least, most)
            sets = tuple(sorted(picker.some_of(sets, min(14, len(sets)))))
            for many in (2, 3, 4, 6):
                self.tells(next_level_by_choices(sets, many), next_level, sets, many)


class Levels(Asking, unittest.TestCase):
    def levels(self, text, many, most, *told):
        self.tells([read_sets(one) for one in told], levels_of, read_sets(text), many, most)

    def test_next_of_itself(self):
        for most in (1, 2, 9):
            self.levels("", 2, most, "")
            self.levels("-", 3, most, "-")
            self.levels("a b", 2, most, "a b")
            self.levels(PAIRS_OF_FOUR, 4, most, PAIRS_OF_FOUR)

    def test_pairs_of_four_names(self):
        self.levels(PAIRS_OF_FOUR, 3, 9, PAIRS_OF_FOUR, "a\nb\nc\nd", "-")
        self.levels(PAIRS_OF_FOUR, 2, 9, PAIRS_OF_FOUR, "-\na\nb\nc\nd", "-")

    def test_at_most_so_many(self):
        self.levels(PAIRS_OF_FOUR, 3, 1, PAIRS_OF_FOUR)
        self.levels(PAIRS_OF_FOUR, 3, 2, PAIRS_OF_FOUR, "a\nb\nc\nd")
        self.levels(PAIRS_OF_FOUR, 3, 3, PAIRS_OF_FOUR, "a\nb\nc\nd", "-")
        self.levels(PAIRS_OF_FOUR, 3, 4, PAIRS_OF_FOUR, "a\nb\nc\nd", "-")
        self.levels(PAIRS_OF_FOUR, 3, 999999999999, PAIRS_OF_FOUR, "a\nb\nc\nd", "-")

    def test_sets_in_none_go_along(self):
        self.levels("a b\na c\na d\nx y", 3, 9, "a b\na c\na d\nx y", "a\nx y")
        self.levels("a b\na c\na d\nx\ny", 3, 9, "a b\na c\na d\nx\ny", "-\na")

    def test_told_list_is_the_askers_own(self):
        sets = read_sets(PAIRS_OF_FOUR)
        told = levels_of(sets, 3, 9)
        kept = list(told)
        told.append("strange")
        told[0] = ()
        self.assertEqual(kept, levels_of(sets, 3, 9))
        self.assertEqual(read_sets(PAIRS_OF_FOUR), sets)

    def test_against_all_choices(self):
        lengths = set()
        for turn, sets in enumerate(drawn(63, 120, 8)):
            for many in (2, 3, 4):
                told = levels_by_choices(sets, many, 99)
                self.tells(told, levels_of, sets, many, 99)
                self.tells(told[:1 + turn % 3], levels_of, sets, many, 1 + turn % 3)
                self.assertFalse(has_flower(told[-1], many))
                lengths.add((many, len(told)))
        self.assertLessEqual({(2, 5), (3, 3), (4, 2)}, lengths)

    def test_levels_handed_on(self):
        sets = tuple(combinations(NAMES[:8], 6))[::2]
        levels = self.asked(levels_of, sets, 2, 20)
        self.assertGreater(max(map(len, levels)), 60)
        for ahead, behind in zip(levels, levels[1:] + levels[-1:]):
            self.tells(behind, next_level, ahead, 2)
            self.tells(next_level_by_choices(ahead, 3), next_level, ahead, 3)
            for many in range(2, 7):
                told = self.asked(next_level, ahead, many)
                self.assertTrue(is_collection(told))
        self.tells(levels, levels_of, levels[0], 2, 20)
        self.tells(levels[1:], levels_of, levels[1], 2, 20)

    def test_great_level(self):
        singles = tuple((name,) for name in NAMES)
        for many in range(2, 7):
            self.tells(tuple(sorted(((),) + singles)), next_level, UP_TO_TWO, many)


class CoreCount(Asking, unittest.TestCase):
    def test_none_and_one_set(self):
        for text in ("", "-", "a", "a b"):
            for many in range(2, 7):
                for core in ((), ("a",), ("a", "b")):
                    self.tells(0, core_count, read_sets(text), many, core)

    def test_pairs_of_four_names(self):
        sets = read_sets(PAIRS_OF_FOUR)
        self.tells(3, core_count, sets, 2, ())
        self.tells(3, core_count, sets, 2, ("b",))
        self.tells(1, core_count, sets, 3, ("b",))
        self.tells(0, core_count, sets, 3, ())
        self.tells(0, core_count, sets, 4, ("b",))

    def test_core_that_no_flower_has(self):
        sets = read_sets(PAIRS_OF_FOUR)
        for core in (("z",), ("a", "b"), ("a", "z"), tuple("abcdefgh")):
            for many in range(2, 7):
                self.tells(0, core_count, sets, many, core)
        self.tells(0, core_count, read_sets("a b c\na b d"), 2, ("a",))

    def test_core_that_is_a_set(self):
        self.tells(3, core_count, read_sets("a\na b\na c"), 2, ("a",))
        self.tells(1, core_count, read_sets("a\na b\na c"), 3, ("a",))
        self.tells(3, core_count, read_sets("-\na\nb"), 2, ())

    def test_against_all_choices(self):
        told = set()
        for sets in drawn(64, 150):
            names = sorted({name for one in sets for name in one})
            cores = {()} | {(name,) for name in names[:4]} | set(sets[:3]) | {tuple(names[:2]), ("z",)}
            for many in range(2, 7):
                flowers = flowers_by_choices(sets, many)
                for core in sorted(cores):
                    number = len([some for some in flowers if core_by_pairs(some) == core])
                    self.tells(number, core_count, sets, many, core)
                    told.add((many, bool(core), number > 0))
        self.assertLessEqual({(many, core, True) for many in (2, 3, 4) for core in (True, False)}, told)

    def test_great_level(self):
        for many in range(2, 7):
            at_none = apart_of_up_to_two(many) + apart_of_up_to_two(many - 1)
            # Beside one name are that name alone and eleven pairs.
            at_one = math.comb(12, many)
            self.tells(at_none, core_count, UP_TO_TWO, many, ())
            self.tells(at_one, core_count, UP_TO_TWO, many, ("e",))
            self.tells(0, core_count, UP_TO_TWO, many, ("a", "b"))
            self.tells(at_none, count_with_core, UP_TO_TWO, many, ())
            self.tells(at_none + 12 * at_one, count_flowers, UP_TO_TWO, many)


if __name__ == "__main__":
    unittest.main()

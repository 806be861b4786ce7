import math
import unittest
from itertools import combinations

from corepetals.found.exact import count_flowers, count_with_core, greatest_flower, most_apart
from corepetals.sets.flowers import core_of, flower_shown
from corepetals.sets.texts import read_sets
from looker import Asking, Picker, apart_by_choices, core_by_pairs, flowers_by_choices, greatest_by_choices

NAMES = tuple("abcdefghijkl")
TRIANGLE = read_sets("a b\na c\nb c")
PAIRS_OF_FOUR = read_sets("a b\na c\na d\nb c\nb d\nc d")
ALL_APART = ((),) + tuple((name,) for name in NAMES)


def drawn(seed, turns, most_sets=10):
    """Collections of few and many names, of small and great sets, the set of no names among some."""
    picker = Picker(seed)
    for turn in range(turns):
        names = NAMES[:2 + turn % 11]
        least = picker.below(2)
        most = min(len(names), 1 + picker.below(6))
        yield picker.collection(names, picker.below(most_sets + 1), least, most)


class Greatest(Asking, unittest.TestCase):
    def greatest(self, text, told):
        self.tells(told if told is None else read_sets(told), greatest_flower, read_sets(text))

    def test_fewer_than_two_sets(self):
        self.tells(None, greatest_flower, ())
        self.tells(None, greatest_flower, ((),))
        self.tells(None, greatest_flower, (("a",),))
        self.tells(None, greatest_flower, (("a", "b", "c"),))

    def test_two_sets_are_one(self):
        self.greatest("-\na", "-\na")
        self.greatest("a\na b", "a\na b")
        self.greatest("a b\nc d", "a b\nc d")

    def test_set_of_no_names_beside_others(self):
        self.greatest("-\na\nb\na b", "-\na\nb")
        self.greatest("-\na b\na c\na d", "a b\na c\na d")
        self.greatest("-\na b\na c", "-\na b")

    def test_core_of_some_names(self):
        self.greatest("a b\na c\na d\nb c d", "a b\na c\na d")
        self.greatest("a\na b\na c\nb", "a\na b\na c")
        self.greatest("a b c\na b d\na b e\na c d\na c e f", "a b c\na b d\na b e")

    def test_first_of_several(self):
        self.greatest("a b\na c\nb c", "a b\na c")
        self.greatest("a x\na y\nb x\nb y\nc x\nc y", "a x\nb x\nc x")
        self.greatest("a b\nc d\na c\nb d", "a b\na c")

    def test_first_as_tuples_not_by_cores(self):
        # Of three sets are that of core b and that of core z; that of z begins with an earlier set.
        self.greatest("a z\nb c\nb d\nb z\nc z", "a z\nb z\nc z")
        self.greatest("a z\nb z\nc z\nd e\nd f\nd g", "a z\nb z\nc z")

    def test_more_sets_though_later(self):
        self.greatest("a b\na c\nd e\nd f\nd g\nb d", "b d\nd e\nd f\nd g")

    def test_all_are_one(self):
        self.tells(ALL_APART, greatest_flower, ALL_APART)
        star = tuple(("a", name) for name in NAMES[1:])
        self.tells(star, greatest_flower, star)

    def test_longer_names(self):
        self.greatest("ab b\nab abc\na b", "ab abc\na b")

    def test_against_all_choices(self):
        sizes = set()
        for sets in drawn(11, 300):
            told = self.asked(greatest_flower, sets)
            self.assertEqual(greatest_by_choices(sets), told, sets)
            if told is not None:
                self.assertTrue(flower_shown(sets, len(told), told))
                sizes.add(len(told))
        self.assertLessEqual({2, 3, 4, 5}, sizes)


class Counts(Asking, unittest.TestCase):
    def test_none_and_one_set(self):
        for sets in ((), ((),), (("a",),), (("a", "b"),)):
            for many in range(2, 7):
                self.tells(0, count_flowers, sets, many)
                self.tells(0, count_with_core, sets, many, ())
                self.tells(0, count_with_core, sets, many, ("a",))

    def test_more_asked_than_sets(self):
        for many in range(4, 7):
            self.tells(0, count_flowers, TRIANGLE, many)

    def test_any_two_are_one(self):
        self.tells(3, count_flowers, TRIANGLE, 2)
        self.tells(15, count_flowers, PAIRS_OF_FOUR, 2)
        self.tells(3, count_flowers, ((), ("a",), ("a", "b")), 2)

    def test_pairs_of_four_names(self):
        self.tells(0, count_flowers, TRIANGLE, 3)
        self.tells(4, count_flowers, PAIRS_OF_FOUR, 3)
        self.tells(0, count_flowers, PAIRS_OF_FOUR, 4)

    def test_all_apart(self):
        for many in range(2, 7):
            self.tells(math.comb(13, many), count_flowers, ALL_APART, many)
            self.tells(math.comb(13, many), count_with_core, ALL_APART, many, ())
            self.tells(0, count_with_core, ALL_APART, many, ("a",))

    def test_told_core(self):
        self.tells(3, count_with_core, PAIRS_OF_FOUR, 2, ())
        self.tells(3, count_with_core, PAIRS_OF_FOUR, 2, ("a",))
        self.tells(3, count_with_core, PAIRS_OF_FOUR, 2, ("d",))
        self.tells(1, count_with_core, PAIRS_OF_FOUR, 3, ("a",))
        self.tells(0, count_with_core, PAIRS_OF_FOUR, 3, ())

    def test_core_that_no_two_sets_have(self):
        for core in (("a", "b"), ("a", "b", "c"), ("z",), ("a", "z")):
            for many in range(2, 7):
                self.tells(0, count_with_core, PAIRS_OF_FOUR, many, core)

    def test_core_that_two_sets_have_but_not_alone(self):
        # Both sets have a, and b too, so a by itself is no core.
        sets = read_sets("a b c\na b d")
        self.tells(1, count_with_core, sets, 2, ("a", "b"))
        self.tells(0, count_with_core, sets, 2, ("a",))
        self.tells(0, count_with_core, sets, 2, ())

    def test_core_that_is_a_set(self):
        sets = read_sets("a\na b\na c")
        self.tells(3, count_with_core, sets, 2, ("a",))
        self.tells(1, count_with_core, sets, 3, ("a",))
        self.tells(1, count_with_core, read_sets("-\na\nb\na b"), 3, ())

    def test_against_all_choices(self):
        told = set()
        for sets in drawn(12, 200):
            names = sorted({name for one in sets for name in one})
            cores = {()} | {(name,) for name in names[:3]} | set(sets[:2]) | {tuple(names[:2]), ("z",)}
            for many in range(2, 7):
                flowers = flowers_by_choices(sets, many)
                self.tells(len(flowers), count_flowers, sets, many)
                told.add((many, bool(flowers)))
                for core in cores:
                    having = [some for some in flowers if core_by_pairs(some) == core]
                    self.tells(len(having), count_with_core, sets, many, core)
        self.assertEqual(10, len(told))

    def test_cores_share_out_all_flowers(self):
        for sets in drawn(13, 60):
            cores = {core_of(pair) for pair in combinations(sets, 2)}
            for many in range(2, 7):
                self.assertEqual(count_flowers(sets, many),
                                 sum(count_with_core(sets, many, core) for core in cores))


class Apart(Asking, unittest.TestCase):
    def apart(self, text, told):
        self.tells(read_sets(told), most_apart, read_sets(text))

    def test_none_and_one_set(self):
        self.tells((), most_apart, ())
        self.tells(((),), most_apart, ((),))
        self.tells((("a", "b"),), most_apart, (("a", "b"),))

    def test_set_of_no_names_meets_none(self):
        self.apart("-\na", "-\na")
        self.apart("-\na\na b", "-\na")
        self.apart("-\na b\na c\nb c\nd", "-\na b\nd")

    def test_all_meet(self):
        self.apart("a b\na c\nb c", "a b")
        self.apart("a\na b\na b c", "a")

    def test_first_of_several(self):
        self.apart("a b\na c\na d\nb c\nb d\nc d", "a b\nc d")
        self.apart("a x\na y\nb\nb x", "a x\nb")

    def test_more_than_the_first_chosen(self):
        self.apart("a b\na x\nb y", "a x\nb y")
        self.apart("a b c\na x\nb y\nc z", "a x\nb y\nc z")
        self.apart("a b\nb c\nc d\nd e\ne f", "a b\nc d\ne f")

    def test_a_core_of_names_does_not_count(self):
        self.apart("a b\na c\na d\na e\nf", "a b\nf")

    def test_all_apart(self):
        self.tells(ALL_APART, most_apart, ALL_APART)

    def test_against_all_choices(self):
        sizes = set()
        for sets in drawn(14, 300):
            told = self.asked(most_apart, sets)
            self.assertEqual(apart_by_choices(sets), told, sets)
            sizes.add(len(told))
        self.assertLessEqual({0, 1, 2, 3, 4}, sizes)


class AtTheBounds(Asking, unittest.TestCase):
    def test_fourteen_sets_of_twelve_names(self):
        picker = Picker(15)
        for most in (1, 1, 2, 2, 3, 3, 4, 4, 5, 5, 6, 6):
            sets = picker.collection(NAMES, 60, 0, most)
            sets = tuple(sorted(picker.some_of(sets, min(14, len(sets)))))
            self.tells(greatest_by_choices(sets), greatest_flower, sets)
            self.tells(apart_by_choices(sets), most_apart, sets)
            self.tells(len(flowers_by_choices(sets, 6)), count_flowers, sets, 6)

    def test_sets_of_six_names_all(self):
        sets = tuple(combinations(NAMES[:8], 6))[::2]
        self.assertEqual(14, len(sets))
        self.tells(greatest_by_choices(sets), greatest_flower, sets)
        self.tells(sets[:1], most_apart, sets)
        for many in range(2, 7):
            self.tells(len(flowers_by_choices(sets, many)), count_flowers, sets, many)


if __name__ == "__main__":
    unittest.main()

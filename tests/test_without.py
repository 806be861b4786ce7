import math
import unittest
from itertools import combinations

from corepetals.most.without import most_without
from corepetals.sets.texts import read_sets
from looker import Asking, flowers_by_choices, has_flower, is_collection, most_without_by_choices


class MostWithout(Asking, unittest.TestCase):
    def most(self, names, k, many, number, text):
        self.tells((number, read_sets(text)), most_without, names, k, many)

    def test_no_sets(self):
        for many in range(2, 7):
            self.most(0, 1, many, 0, "")
            self.most(2, 3, many, 0, "")
            self.most(5, 6, many, 0, "")

    def test_the_set_of_no_names_alone(self):
        for names in range(7):
            for many in range(2, 7):
                self.most(names, 0, many, 1, "-")

    def test_one_set(self):
        for many in range(2, 7):
            self.most(1, 1, many, 1, "a")
            self.most(6, 6, many, 1, "a b c d e f")

    def test_any_two_are_a_flower(self):
        self.most(6, 1, 2, 1, "a")
        self.most(6, 2, 2, 1, "a b")
        self.most(4, 3, 2, 1, "a b c")

    def test_sets_of_one_name(self):
        self.most(6, 1, 3, 2, "a\nb")
        self.most(6, 1, 6, 5, "a\nb\nc\nd\ne")
        self.most(4, 1, 6, 4, "a\nb\nc\nd")
        self.most(6, 1, 4, 3, "a\nb\nc")

    def test_pairs(self):
        self.most(3, 2, 3, 3, "a b\na c\nb c")
        # No name in three, so a ring of four and a ring of five.
        self.most(4, 2, 3, 4, "a b\na c\nb d\nc d")
        self.most(5, 2, 3, 5, "a b\na c\nb d\nc e\nd e")
        # A ring of six has three pairs apart, two rings of three have not.
        self.most(6, 2, 3, 6, "a b\na c\nb c\nd e\nd f\ne f")

    def test_pairs_for_more(self):
        # Five in a star, one of each name's five pairs must be missing: three pairs apart.
        number, sets = self.asked(most_without, 6, 2, 5)
        self.assertEqual(12, number)
        missing = set(combinations("abcdef", 2)) - set(sets)
        self.assertEqual(set("abcdef"), {name for pair in missing for name in pair})
        # There is no flower of six pairs of six names.
        self.tells((15, tuple(combinations("abcdef", 2))), most_without, 6, 2, 6)

    def test_all_but_one_name(self):
        # Each two such sets meet in other names.
        for names in range(3, 7):
            self.tells((names, tuple(combinations("abcdef"[:names], names - 1))), most_without, names, names - 1, 3)

    def test_against_all_choices(self):
        tried = 0
        for names in range(7):
            for k in range(names + 2):
                sets = tuple(combinations("abcdef"[:names], k))
                if len(sets) > 15:
                    continue
                for many in range(2, 7):
                    told = most_without_by_choices(sets, flowers_by_choices(sets, many))
                    self.tells((len(told), told), most_without, names, k, many)
                    tried += 1
        self.assertGreater(tried, 150)

    def test_what_is_told_holds_none(self):
        for names, k in ((4, 2), (5, 2), (5, 3), (6, 2), (6, 4)):
            for many in range(2, 7):
                number, sets = most_without(names, k, many)
                self.assertTrue(is_collection(sets))
                self.assertEqual(number, len(sets))
                self.assertFalse(has_flower(sets, many))

    def test_one_more_must_hold_one(self):
        for names, k in ((4, 2), (5, 2), (5, 3), (5, 4), (6, 1)):
            for many in range(2, 7):
                number = most_without(names, k, many)[0]
                all_sets = tuple(combinations("abcdef"[:names], k))
                for some in combinations(all_sets, number + 1):
                    self.assertTrue(has_flower(some, many), some)

    def test_somewhat_beyond_the_bounds(self):
        number, sets = self.asked(most_without, 6, 3, 3)
        self.assertEqual(10, number)
        self.assertFalse(has_flower(sets, 3))
        self.tells((math.comb(6, 3), tuple(combinations("abcdef", 3))), most_without, 6, 3, 6)


if __name__ == "__main__":
    unittest.main()

import math
import unittest
from itertools import combinations

from corepetals.found.way import enough_sets, flower_by_way
from corepetals.sets.flowers import flower_shown
from corepetals.sets.texts import read_sets
from looker import Picker, core_by_pairs, has_flower, way_by_words

LETTERS = tuple("abcdefghijklmnopqrstuvwx")


class Steps(unittest.TestCase):
    def told(self, text, many, flower, *trace):
        sets = read_sets(text)
        self.assertEqual((flower, trace), flower_by_way(sets, many), (text, many))

    def test_no_sets(self):
        for many in range(2, 7):
            self.told("", many, None, (0, None, 0))

    def test_set_of_no_names_alone(self):
        for many in range(2, 7):
            self.told("-", many, None, (1, None, 1))

    def test_one_set(self):
        self.told("a", 2, None, (1, "a", 1), (1, None, 1))
        self.told("b a", 2, None, (1, "a", 1), (1, "b", 1), (1, None, 1))

    def test_set_of_no_names_among_others(self):
        self.told("-\na", 2, ((), ("a",)), (2, None, 2))
        self.told("-\na", 3, None, (2, "a", 2), (1, None, 1))
        self.told("-\na b\na c\nb c", 3, None,
                  (2, "a", 4), (2, "b", 2), (1, None, 1))

    def test_nothing_taken_out(self):
        self.told("a\nb", 2, (("a",), ("b",)), (2, None, 2))
        self.told("a b\nc d\ne f", 3, (("a", "b"), ("c", "d"), ("e", "f")), (3, None, 3))

    def test_all_chosen_are_counted_but_the_first_told(self):
        self.told("a\nb\nc\nd", 2, (("a",), ("b",)), (4, None, 4))
        self.told("a b\na c\nb c\nd\ne f", 2, (("a", "b"), ("d",)), (3, None, 5))

    def test_one_name_taken_out(self):
        self.told("a b\na c", 2, (("a", "b"), ("a", "c")), (1, "a", 2), (2, None, 2))
        self.told("a b\na c\na d\na e", 3, (("a", "b"), ("a", "c"), ("a", "d")),
                  (1, "a", 4), (4, None, 4))

    def test_two_names_taken_out(self):
        self.told("a b c\na b d\na b e\na f", 3,
                  (("a", "b", "c"), ("a", "b", "d"), ("a", "b", "e")),
                  (1, "a", 4), (2, "b", 4), (3, None, 3))

    def test_sets_put_in_order_anew_at_the_end(self):
        # In the link of b the set of no names stands first, with b again it stands last.
        self.told("a b\nb", 2, (("a", "b"), ("b",)), (1, "b", 2), (2, None, 2))
        self.told("a b z\nb\nb c", 3, (("a", "b", "z"), ("b",), ("b", "c")),
                  (1, "b", 3), (3, None, 3))

    def test_the_first_so_many_are_the_first_chosen(self):
        # The link of c is -, a, b: its first two are told, though c stands last in the end.
        self.told("a c\nb c\nc", 2, (("a", "c"), ("c",)), (1, "c", 3), (3, None, 3))

    def test_most_sets_of_all_not_of_the_chosen(self):
        self.told("a b\nb c\nb d", 3, (("a", "b"), ("b", "c"), ("b", "d")),
                  (1, "b", 3), (3, None, 3))

    def test_ties_give_the_first_name(self):
        self.told("a b\na c\nb d", 2, (("a", "b"), ("a", "c")), (1, "a", 3), (2, None, 2))
        self.told("b c\nb d\nc e", 2, (("b", "c"), ("b", "d")), (1, "b", 3), (2, None, 2))

    def test_names_of_the_chosen_alone(self):
        # Most sets have x, but none of the chosen ones has it.
        self.told("a b\na x\na x y\nb x\nb x y", 2, (("a", "b"), ("a", "x")),
                  (1, "a", 5), (2, None, 3))

    def test_way_ends_without(self):
        self.told("a b\na c\nb c", 3, None,
                  (1, "a", 3), (2, "b", 2), (1, None, 1))

    def test_way_may_miss_a_flower(self):
        text = "a c e g\nc d\ne f\ng h"
        self.assertTrue(has_flower(read_sets(text), 3))
        self.told(text, 3, None,
                  (1, "c", 4), (2, "a", 2), (1, "e", 1), (1, "g", 1), (1, None, 1))


class Ways(unittest.TestCase):
    def way_holds(self, sets, many):
        told = flower_by_way(sets, many)
        self.assertEqual(way_by_words(sets, many), told, (sets, many))
        self.assertEqual(told, flower_by_way(sets, many))
        flower, trace = told
        if flower is not None:
            self.assertTrue(flower_shown(sets, many, flower))
            self.assertIsNotNone(core_by_pairs(flower))
            self.assertEqual(many, len(set(flower) & set(sets)))
        self.assertEqual(len(sets), trace[0][2])
        self.assertEqual([None], [name for chosen, name, many_left in trace if name is None])
        self.assertIsNone(trace[-1][1])
        self.assertIsInstance(told, tuple)
        self.assertIsInstance(trace, tuple)
        for step in trace:
            self.assertIsInstance(step, tuple)
        return flower is None, len(trace) > 2

    def test_small_collections(self):
        picker = Picker(5)
        seen = set()
        for turn in range(600):
            names = LETTERS[:3 + turn % 10]
            sets = picker.collection(names, turn % 15, 0, min(6, len(names)))
            seen.add(self.way_holds(sets, 2 + turn % 5))
        self.assertEqual(4, len(seen))

    def test_great_collections(self):
        picker = Picker(6)
        for turn in range(40):
            sets = picker.collection(LETTERS, 120, 1 + turn % 5, 6)
            for many in range(2, 7):
                self.way_holds(sets, many)

    def test_all_bounds_reached(self):
        for k in range(2, 7):
            rows = list(combinations(LETTERS, k))
            sets = tuple(rows[::len(rows) // 120][:120])
            self.assertEqual(120, len(sets))
            for many in range(2, 7):
                self.way_holds(sets, many)

    def test_six_apart_of_twenty_four_names(self):
        sets = tuple(LETTERS[at:at + 4] for at in range(0, 24, 4))
        self.assertEqual((sets, ((6, None, 6),)), flower_by_way(sets, 6))

    def test_longer_names(self):
        sets = read_sets("ab b\nab abc\nab abcdefgh\na")
        self.assertEqual(((("ab", "abc"), ("ab", "abcdefgh"), ("ab", "b")), ((2, "ab", 4), (3, None, 3))),
                         flower_by_way(sets, 3))


class Enough(unittest.TestCase):
    def test_number(self):
        for k in range(7):
            for many in range(2, 7):
                told = enough_sets(k, many)
                self.assertEqual(math.factorial(k) * (many - 1) ** k, told)
                self.assertIs(int, type(told))

    def test_some_written_out(self):
        self.assertEqual(1, enough_sets(0, 6))
        self.assertEqual(5, enough_sets(1, 6))
        self.assertEqual(8, enough_sets(2, 3))
        self.assertEqual(720, enough_sets(6, 2))
        self.assertEqual(11250000, enough_sets(6, 6))

    def enough_and_one(self, k, many, names, seed):
        picker = Picker(seed)
        sets = tuple(sorted(picker.some_of(combinations(names, k), enough_sets(k, many) + 1)))
        flower = flower_by_way(sets, many)[0]
        self.assertIsNotNone(flower, (k, many, sets))
        self.assertTrue(flower_shown(sets, many, flower))

    def test_one_set_more_is_a_flower(self):
        tried = 0
        for k in range(1, 6):
            for many in range(2, 7):
                more = enough_sets(k, many) + 1
                # One set beyond the bound of 120 is let in, for sets of five names.
                if more > 121:
                    continue
                # The fewer names there are, the harder it is to find sets apart.
                fewest = next(n for n in range(k, 25) if math.comb(n, k) >= more)
                for many_names in range(fewest, 25, 3):
                    for seed in range(5):
                        self.enough_and_one(k, many, LETTERS[:many_names], seed)
                        tried += 1
        self.assertGreater(tried, 300)

    def test_as_many_sets_may_be_without(self):
        # Two apart triples of names, two names a set: a flower of three is in neither.
        sets = read_sets("a b\na c\nb c\nd e\nd f\ne f")
        self.assertLessEqual(len(sets), enough_sets(2, 3))
        self.assertIsNone(flower_by_way(sets, 3)[0])
        # Of one name each just so many less one sets are without.
        for many in range(2, 7):
            sets = tuple((name,) for name in LETTERS[:enough_sets(1, many)])
            self.assertIsNone(flower_by_way(sets, many)[0])
        self.assertIsNone(flower_by_way(((),), 2)[0])


if __name__ == "__main__":
    unittest.main()

import unittest
from itertools import combinations, permutations

from corepetals.parted.flowers import bound_below, fewest_parts, parting_shown
from corepetals.sets.texts import read_sets
from looker import Asking, Picker, all_partings, bound_by_choices, fewest_by_choices, parting_by_words

NAMES = tuple("abcdefghijkl")
PAIRS_OF_FOUR = "a b\na c\na d\nb c\nb d\nc d"
ALL_APART = ((),) + tuple((name,) for name in NAMES)


def drawn(seed, turns, most_sets):
    picker = Picker(seed)
    for turn in range(turns):
        names = NAMES[:2 + turn % 8]
        most = min(len(names), 1 + picker.below(4))
        yield picker.collection(names, picker.below(most_sets + 1), picker.below(2), most)


class FewestParts(Asking, unittest.TestCase):
    def fewest(self, text, *told):
        self.tells(tuple(read_sets(part) for part in told), fewest_parts, read_sets(text))

    def test_none_and_one_set(self):
        self.fewest("")
        self.fewest("-", "-")
        self.fewest("a b", "a b")

    def test_two_sets_are_one_part(self):
        self.fewest("-\na", "-\na")
        self.fewest("a\na b", "a\na b")

    def test_three_sets(self):
        self.fewest("a b\na c\na d", "a b\na c\na d")
        self.fewest("-\na\nb", "-\na\nb")
        # Of several the first: one set alone stands ahead of it with others.
        self.fewest("a b\na c\nb c", "a b", "a c\nb c")
        self.fewest("-\na\na b", "-", "a\na b")

    def test_four_sets(self):
        self.fewest("a b\na c\nb c\nd", "a b\na c", "b c\nd")
        # The flower of three would leave one alone, but two and two stand ahead of it.
        self.fewest("a b\na c\na d\nb c", "a b\na c", "a d\nb c")
        self.fewest("a b\na c\na d\nb c d", "a b\na c", "a d\nb c d")

    def test_pairs_of_four_names(self):
        self.fewest(PAIRS_OF_FOUR, "a b", "a c\nb c", "a d\nb d\nc d")

    def test_all_apart(self):
        for many in (9, 13):
            self.tells((ALL_APART[:many],), fewest_parts, ALL_APART[:many])

    def test_against_all_choices(self):
        numbers = set()
        for sets in drawn(91, 150, 7):
            told = self.asked(fewest_parts, sets)
            self.assertEqual(fewest_by_choices(sets), told, sets)
            self.tells(True, parting_shown, sets, told)
            numbers.add(len(told))
        self.assertLessEqual({0, 1, 2, 3}, numbers)

    def test_nine_sets(self):
        picker = Picker(92)
        for names, many in ((NAMES[:6], 2), (NAMES[:6], 4), (NAMES[:8], 6)):
            sets = tuple(sorted(picker.some_of(combinations(names, many), 9)))
            self.tells(fewest_by_choices(sets), fewest_parts, sets)


class PartingShown(Asking, unittest.TestCase):
    def shown(self, text, parts, truth):
        """Parts are told by rows of sets, the parts parted by bars."""
        told = tuple(tuple(tuple(one.split()) if one.strip() != "-" else () for one in part.split(",") if one)
                     for part in parts.split("|")) if parts else ()
        self.tells(truth, parting_shown, read_sets(text), told)

    def test_no_sets(self):
        self.tells(True, parting_shown, (), ())
        self.tells(False, parting_shown, (), ((),))
        self.tells(False, parting_shown, (), (((),),))
        self.tells(False, parting_shown, (("a",),), ())

    def test_one_set(self):
        self.shown("a b", "a b", True)
        self.shown("-", "-", True)
        self.tells(False, parting_shown, ((),), ((),))

    def test_any_order(self):
        for text in ("a b, a c|b c, d", "b c, d|a b, a c", "d, b c|a c, a b", "d|b c|a c|a b"):
            self.shown("a b\na c\nb c\nd", text, True)

    def test_no_flower_among_them(self):
        self.shown("a b\na c\nb c\nd", "a b, a c, b c|d", False)
        self.shown("a b\na c\nb c\nd", "d|a b, a c, b c", False)

    def test_set_left_out(self):
        self.shown("a b\na c\nb c\nd", "a b, a c|b c", False)
        self.shown("-\na", "a", False)

    def test_set_twice(self):
        self.shown("a\nb", "a|b|a", False)
        self.shown("a\nb", "a, b|a", False)
        self.shown("a\nb", "a, a|b", False)
        # One that is twice in the place of one that is left out.
        self.shown("a\nb\nc", "a, b|a", False)

    def test_strange_set(self):
        self.shown("a\nb", "a, b|c", False)
        self.shown("a\nb", "a, c", False)
        self.shown("a\nb", "a, b, -", False)

    def test_names_turned_about(self):
        self.shown("a b\nc", "a b, c", True)
        self.shown("a b\nc", "b a, c", False)
        self.shown("a b\nc", "b a|c", False)
        self.shown("a b\nc", "a a b|c", False)

    def test_part_of_no_sets(self):
        self.tells(False, parting_shown, (("a",), ("b",)), ((("a",), ("b",)), ()))
        self.tells(False, parting_shown, (("a",), ("b",)), ((), (("a",),), (("b",),)))

    def test_against_the_words(self):
        told = set()
        for sets in drawn(93, 40, 5):
            for parts in all_partings(sets):
                truth = parting_by_words(sets, parts)
                for turned in (parts, parts[::-1], tuple(part[::-1] for part in parts)):
                    self.tells(truth, parting_shown, sets, turned)
                told.add((len(parts), truth))
        self.assertLessEqual({(parts, truth) for parts in (1, 2, 3) for truth in (True, False)}, told)

    def test_parts_in_all_orders(self):
        parts = tuple(read_sets(part) for part in ("a b\na c\na d", "b c", "b d\nc d"))
        for turned in permutations(parts):
            self.tells(True, parting_shown, read_sets(PAIRS_OF_FOUR), turned)


class BoundBelow(Asking, unittest.TestCase):
    def bound(self, text, told):
        self.tells(told, bound_below, read_sets(text))

    def test_none_and_few_sets(self):
        self.bound("", 0)
        self.bound("-", 1)
        self.bound("a", 1)
        self.bound("a\nb", 1)

    def test_three_sets(self):
        self.bound("a\nb\nc", 1)
        self.bound("a b\na c\nb c", 2)

    def test_pairs_of_four_names(self):
        # Four pairs round hold no three with one name.
        self.bound(PAIRS_OF_FOUR, 2)

    def test_rounded_up(self):
        self.bound("-\na\na b\na b c\na b c d", 3)
        self.bound("-\na\na b\na b c", 2)

    def test_all_apart(self):
        self.tells(1, bound_below, ALL_APART)

    def test_never_more_than_they_are(self):
        told = set()
        for sets in drawn(94, 200, 9):
            number = self.asked(bound_below, sets)
            self.assertEqual(bound_by_choices(sets), number, sets)
            self.assertLessEqual(number, len(fewest_parts(sets)))
            told.add((number, number == len(fewest_parts(sets))))
        self.assertLessEqual({(0, True), (1, True), (2, True), (2, False), (3, True)}, told)

    def test_fourteen_sets(self):
        picker = Picker(95)
        for most in (1, 2, 3, 4, 6):
            sets = picker.collection(NAMES, 60, most // 2, most)
            sets = tuple(sorted(picker.some_of(sets, min(14, len(sets)))))
            self.tells(bound_by_choices(sets), bound_below, sets)


if __name__ == "__main__":
    unittest.main()

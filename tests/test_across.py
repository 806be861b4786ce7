import unittest
from itertools import combinations, permutations

from corepetals.errors import NoAsk, NoFlower, NoSet, NoSets, PetalError
from corepetals.parted.across import across_sum, go_across, longest_across
from corepetals.sets.texts import read_sets
from looker import Asking, Picker, across_by_words, across_sum_by_words, longest_across_by_choices

NAMES = tuple("abcdefghijkl")
NO_NAMES = ()


def row_of(text):
    """A tuple of sets in the order of a text that parts them by commas."""
    return tuple(read_sets(row.strip())[0] for row in text.split(",")) if text else ()


def complements(some, names):
    return tuple(tuple(name for name in names if name not in one) for one in some)


class GoAcross(Asking, unittest.TestCase):
    def across(self, one, other, truth):
        self.tells(truth, go_across, row_of(one), row_of(other))
        self.tells(truth, go_across, row_of(other), row_of(one))

    def test_none(self):
        self.tells(True, go_across, (), ())

    def test_unlike_lengths(self):
        self.across("a", "", False)
        self.across("-", "", False)
        self.across("a, b", "b", False)
        self.across("a, b", "b, a, c", False)

    def test_one_place(self):
        self.across("a", "b", True)
        self.across("a b", "c d", True)
        self.across("a", "a", False)
        self.across("a b", "b c", False)

    def test_set_of_no_names(self):
        self.across("-", "-", True)
        self.across("-", "a", True)
        # It meets none, so it never stands beside other places.
        self.across("-, a", "a, b", False)
        self.across("-, -", "-, -", False)
        self.across("-, a", "a, -", False)

    def test_two_places(self):
        self.across("a, b", "b, a", True)
        self.across("a, b", "a, b", False)
        self.across("a c, b", "b, c", True)

    def test_meeting_one_way_alone(self):
        # The second of one meets the first of the other, but not the other way round.
        self.across("a, b", "b, c", False)
        self.across("b, c", "d, b", False)

    def test_meeting_at_the_last_place_alone(self):
        self.across("a, b, c", "b c, a c, a b", True)
        self.across("a, b, c", "b c, a c, a b c", False)
        self.across("a, b, c", "b c, a c, a", False)

    def test_alike_sets(self):
        self.across("a, a", "b, b", False)
        self.across("a, a", "b, a", False)

    def test_sets_in_any_order(self):
        one = tuple(combinations("abcd", 2))
        for turned in permutations(one[:4]):
            self.tells(True, go_across, turned, complements(turned, "abcd"))
        self.tells(False, go_across, one, one)

    def test_against_the_words(self):
        picker = Picker(51)
        told = set()
        for turn in range(600):
            one, other = self.drawn_pair(picker, turn)
            truth = across_by_words(one, other)
            self.tells(truth, go_across, one, other)
            told.add((len(one), truth))
        self.assertLessEqual({(long, truth) for long in (1, 2, 3, 4) for truth in (True, False)}, told)

    def drawn_pair(self, picker, turn):
        """Drawn sets and their complements, one of them now and then changed."""
        names = NAMES[:3 + turn % 4]
        one = picker.some_of(combinations(names, 1 + picker.below(2)), 1 + picker.below(3 + turn % 2))
        other = list(complements(one, names))
        if turn % 2:
            other[picker.below(len(other))] = picker.one_set(names, 0, 3)
        return tuple(one), tuple(other)

    def test_fourteen_places(self):
        one = tuple(combinations("abcdef", 3))[:14]
        other = complements(one, "abcdef")
        self.tells(True, go_across, one, other)
        self.tells(False, go_across, one, other[:13] + (("a",),))
        self.tells(False, go_across, one, other[1:] + other[:1])
        self.tells(False, go_across, (NO_NAMES,) * 14, (NO_NAMES,) * 14)


class AcrossSum(Asking, unittest.TestCase):
    def test_none(self):
        self.tells((0, 1), across_sum, (), ())

    def test_one_place(self):
        for one, other, told in (("-", "-", (1, 1)), ("-", "a", (1, 1)), ("a b c", "-", (1, 1)), ("a", "b", (1, 2)),
                                 ("a b", "c", (1, 3)), ("a", "b c", (1, 3)), ("a b", "c d", (1, 6)),
                                 ("a b c", "d e f", (1, 20)), ("a b c d e f", "g h i j k l", (1, 924)),
                                 ("a b c d e f", "g", (1, 7))):
            self.tells(told, across_sum, row_of(one), row_of(other))

    def test_several_places(self):
        self.tells((1, 1), across_sum, row_of("a, b"), row_of("b, a"))
        self.tells((5, 6), across_sum, row_of("a c, b"), row_of("b, c"))
        self.tells((1, 1), across_sum, row_of("a, b, c"), row_of("b c, a c, a b"))
        self.tells((2, 3), across_sum, row_of("a, b"), row_of("b c, a c"))
        self.tells((1, 3), across_sum, row_of("a b, a c"), row_of("c d, b d"))

    def test_never_above_one(self):
        for names, many in (("abcd", 2), ("abcde", 2), ("abcdef", 1)):
            one = tuple(combinations(names, many))
            self.tells((1, 1), across_sum, one, complements(one, names))
        one = tuple(combinations("abcdef", 3))[:14]
        self.tells((7, 10), across_sum, one, complements(one, "abcdef"))

    def test_refused(self):
        for one, other in (("a", "a"), ("a, b", "b"), ("a", ""), ("", "-"), ("a, b", "b, c"), ("-, -", "-, -")):
            with self.assertRaises(NoFlower) as caught:
                across_sum(row_of(one), row_of(other))
            self.assertIsInstance(caught.exception, PetalError)
            self.assertNotIsInstance(caught.exception, (NoAsk, NoSet, NoSets))

    def test_against_the_words(self):
        picker = Picker(52)
        found = 0
        while found < 150:
            one = tuple(picker.one_set(NAMES[:6], 0, 4) for _ in range(1 + picker.below(3)))
            other = tuple(picker.one_set(NAMES[:6], 0, 4) for _ in one)
            if across_by_words(one, other):
                self.tells(across_sum_by_words(one, other), across_sum, one, other)
                found += 1


class LongestAcross(Asking, unittest.TestCase):
    def longest(self, text, one, other):
        self.tells((row_of(one), row_of(other)), longest_across, read_sets(text))

    def test_no_sets(self):
        self.longest("", "", "")

    def test_one_set(self):
        self.longest("a", "", "")
        self.longest("a b", "", "")
        # The set of no names does not meet itself.
        self.longest("-", "-", "-")

    def test_none_go_across(self):
        self.longest("a b\na c\nb c", "", "")
        self.longest("a\na b", "", "")

    def test_set_of_no_names_beside_others(self):
        self.longest("-\na", "-", "-")
        self.longest("-\na b\na c\nb c", "-", "-")
        self.longest("-\na\nb", "a, b", "b, a")

    def test_a_set_in_both(self):
        self.longest("a\nb", "a, b", "b, a")
        self.longest("a\nb\nb c", "a, b", "b, a")
        self.longest("a c\nb\nc", "a c, b", "b, a c")

    def test_first_of_several(self):
        self.longest("a b\nc d\ne f", "a b, c d", "c d, a b")
        # All of the first tuple counts ahead of the second, so b beside a c comes too late.
        self.longest("a c\na d\nb\nb c\nd", "a c, a d", "d, b c")
        self.longest("a b\na c\nb c\na\nb\nc", "a, b, c", "b c, a c, a b")

    def test_at_most_five_long(self):
        pairs = tuple(combinations("abcd", 2))
        self.tells((pairs[:5], complements(pairs[:5], "abcd")), longest_across, pairs)
        eight = tuple(sorted(pairs + (("a",), ("b", "c", "d"))))
        told = self.asked(longest_across, eight)
        self.assertEqual(5, len(told[0]))
        self.assertEqual(longest_across_by_choices(eight), told)

    def test_against_all_choices(self):
        picker = Picker(53)
        lengths = set()
        for turn in range(200):
            names = NAMES[:2 + turn % 5]
            sets = picker.collection(names, picker.below(9), picker.below(2), min(len(names), 1 + picker.below(3)))
            told = longest_across_by_choices(sets)
            self.tells(told, longest_across, sets)
            lengths.add(len(told[0]))
        self.assertLessEqual({0, 1, 2, 3, 4}, lengths)

    def test_eight_sets_and_more(self):
        picker = Picker(54)
        for turn in range(6):
            sets = tuple(sorted(picker.some_of(combinations(NAMES[:5 + turn % 2], 2 + turn % 2), 8)))
            self.tells(longest_across_by_choices(sets), longest_across, sets)
        sets = tuple(combinations("abcdef", 3))[:14]
        self.assertEqual(((), ()), longest_across(tuple(combinations("abcde", 3))))
        self.assertEqual(2, len(self.asked(longest_across, sets)))


if __name__ == "__main__":
    unittest.main()

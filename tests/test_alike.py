import unittest
from itertools import combinations, permutations

from corepetals.sets.flowers import core_of
from corepetals.sets.texts import read_sets
from corepetals.words.alike import is_surely, meet_in, most_alike, surely_number
from looker import Asking, Picker, alike_by_choices, met_by_pairs

NAMES = tuple("abcdefghijkl")
LINES_OF_SEVEN = "a b c\na d e\na f g\nb d f\nb e g\nc d g\nc e f"


def drawn(seed, turns, most_sets=9):
    picker = Picker(seed)
    for turn in range(turns):
        names = NAMES[:3 + turn % 10]
        most = min(len(names), 1 + picker.below(6))
        least = most if turn % 2 else 0
        yield picker.collection(names, picker.below(most_sets + 1), least, most)


class MeetIn(Asking, unittest.TestCase):
    def meet(self, text, told):
        for some in list(permutations(read_sets(text)))[:24]:
            self.tells(told, meet_in, some)

    def test_two_sets(self):
        self.meet("-\na", 0)
        self.meet("a\nb", 0)
        self.meet("a\na b", 1)
        self.meet("a b c\nb c d", 2)

    def test_one_number_for_all(self):
        self.meet("-\na\nb", 0)
        self.meet("a b\na c\nb c", 1)
        self.meet("a b\na c\na d", 1)
        self.meet("a b c\na b d\na c d\nb c d", 2)
        self.meet(LINES_OF_SEVEN, 1)

    def test_not_one_number(self):
        self.meet("-\na\na b", None)
        self.meet("a b\na c\nd e", None)
        self.meet("a b\nb c\nc d\nd a", None)
        self.meet("a b c\na b d\na e f", None)

    def test_against_pairs(self):
        told = set()
        for sets in drawn(81, 300, 4):
            if len(sets) > 1:
                self.tells(met_by_pairs(sets), meet_in, sets)
                told.add(met_by_pairs(sets))
        self.assertLessEqual({None, 0, 1, 2, 3}, told)


class MostAlike(Asking, unittest.TestCase):
    def alike(self, text, told):
        self.tells(read_sets(told), most_alike, read_sets(text))

    def test_none_and_one_set(self):
        self.alike("", "")
        self.alike("-", "-")
        self.alike("a b", "a b")

    def test_two_sets(self):
        self.alike("-\na", "-\na")
        self.alike("a b\nb c", "a b\nb c")

    def test_all(self):
        self.alike("a b\na c\nb c", "a b\na c\nb c")
        self.alike(LINES_OF_SEVEN, LINES_OF_SEVEN)

    def test_more_of_another_number(self):
        self.alike("a b\na c\nb c\nd\ne", "a b\na c\nb c")
        self.alike("-\na b\na c\nd", "-\na b\nd")
        self.alike("a b\na c\nd\ne\nf", "a b\nd\ne\nf")
        self.alike("a b c\na b d\na c d\nb c d\ne f\ng", "a b c\na b d\na c d\nb c d")

    def test_first_of_several(self):
        # Three meet in no names, and three in one; the latter begin alike and go on with an earlier set.
        self.alike("a b\na c\na d\ne\nf", "a b\na c\na d")
        self.alike("a b\nc\nd e\nd f\nd g", "a b\nc\nd e")
        self.alike("a b\nc d\na c\nb d", "a b\na c")
        self.alike("-\na\na b", "-\na")

    def test_against_all_choices(self):
        sizes = set()
        for sets in drawn(82, 300):
            told = self.asked(most_alike, sets)
            self.assertEqual(alike_by_choices(sets), told, sets)
            sizes.add((len(told), met_by_pairs(told)))
        self.assertLessEqual({(0, None), (1, None), (2, 0), (2, 1), (3, 0), (3, 1), (3, 2), (4, 1), (4, 2)}, sizes)

    def test_fourteen_sets_of_twelve_names(self):
        picker = Picker(83)
        for most in (1, 2, 2, 3, 3, 4, 5, 6):
            sets = picker.collection(NAMES, 60, most // 2, most)
            sets = tuple(sorted(picker.some_of(sets, min(14, len(sets)))))
            self.tells(alike_by_choices(sets), most_alike, sets)


class Surely(Asking, unittest.TestCase):
    def surely(self, sets, truth):
        self.tells(truth, is_surely, sets)

    def test_number(self):
        for k, told in ((1, 1), (2, 3), (3, 7), (4, 13), (5, 21), (6, 31)):
            self.tells(told, surely_number, k)

    def test_none_and_one_set(self):
        for text in ("", "-", "a", "a b"):
            self.surely(read_sets(text), False)

    def test_sets_of_one_name(self):
        self.surely(read_sets("a\nb"), True)
        self.surely(tuple((name,) for name in NAMES), True)
        self.surely(read_sets("-\na"), False)
        self.surely(read_sets("-\na\nb"), False)

    def test_just_the_number_is_not_enough(self):
        self.surely(read_sets("a b\na c\na d"), False)
        self.surely(read_sets("a b\na c\na d\na e"), True)
        self.surely(read_sets(LINES_OF_SEVEN), False)
        self.surely(tuple(("a", "b", name) for name in NAMES[2:9]), False)
        self.surely(tuple(("a", "b", name) for name in NAMES[2:10]), True)

    def test_fourteen_of_four_names(self):
        names = tuple("abcdefghijklmnopq")
        self.surely(tuple(names[:3] + (name,) for name in names[3:16]), False)
        self.surely(tuple(names[:3] + (name,) for name in names[3:17]), True)

    def test_not_one_number_of_names(self):
        self.surely(read_sets("a b\na c\na d\na e\na"), False)
        self.surely(read_sets("a b\na c\na d\na e\na f g"), False)

    def test_not_meeting_in_one_number(self):
        self.surely(read_sets("a b\na c\nb c\nd e"), False)
        self.surely(tuple(combinations("abcd", 2)), False)
        self.surely(read_sets("a b\na c\na d\na e\nb c"), False)

    def test_against_the_words(self):
        told = set()
        for sets in drawn(84, 300, 6):
            lengths = {len(one) for one in sets}
            k = max(lengths, default=0)
            truth = (lengths == {k} and k >= 1 and len(sets) > k * k - k + 1 and len(sets) >= 2
                     and met_by_pairs(sets) is not None)
            self.surely(sets, truth)
            if truth:
                self.assertIsNotNone(core_of(sets))
            told.add((k, truth))
        self.assertLessEqual({(1, True), (1, False), (2, False)}, told)


if __name__ == "__main__":
    unittest.main()

import unittest
from itertools import combinations

from corepetals.errors import NoAsk, NoFlower, NoSet, NoSets, PetalError
from corepetals.kept import KeptSets
from corepetals.sets.texts import read_sets
from looker import Picker, flowers_by_choices, is_collection

NAMES = tuple("abcdefghijkl")


class Kept(unittest.TestCase):
    def put(self, kept, row, told):
        """Puts the set of a row in; told is the flower's text or None."""
        told = told if told is None else read_sets(told)
        self.assertEqual(repr(told), repr(kept.put_set(read_sets(row)[0])), row)

    def take(self, kept, row):
        self.assertIsNone(kept.take_set(read_sets(row)[0]))

    def holds(self, kept, text, truth):
        for _ in range(2):
            self.assertEqual(repr(read_sets(text)), repr(kept.sets_now()))
            self.assertIs(truth, kept.has_flower())

    def refused(self, deed, row):
        with self.assertRaises(NoSet) as caught:
            deed(read_sets(row)[0])
        self.assertIsInstance(caught.exception, PetalError)
        self.assertNotIsInstance(caught.exception, (NoAsk, NoFlower, NoSets))

    def test_begins_without_sets(self):
        for many in range(2, 7):
            self.holds(KeptSets(many), "", False)

    def test_flowers_of_two(self):
        kept = KeptSets(2)
        self.put(kept, "b", None)
        self.holds(kept, "b", False)
        self.put(kept, "a c", "a c\nb")
        self.holds(kept, "a c\nb", True)
        # The first that has the set put in, not the first of all.
        self.put(kept, "c", "a c\nc")
        self.put(kept, "d", "a c\nd")
        self.put(kept, "a", "a\na c")

    def test_flowers_of_three(self):
        kept = KeptSets(3)
        self.put(kept, "a b", None)
        self.put(kept, "a c", None)
        self.holds(kept, "a b\na c", False)
        self.put(kept, "a d", "a b\na c\na d")
        self.put(kept, "b c", None)
        # There is a flower, though the set put in last is in none.
        self.holds(kept, "a b\na c\na d\nb c", True)
        self.put(kept, "a e", "a b\na c\na e")
        self.take(kept, "a d")
        self.holds(kept, "a b\na c\na e\nb c", True)
        self.take(kept, "a b")
        self.holds(kept, "a c\na e\nb c", False)
        self.put(kept, "a b", "a b\na c\na e")

    def test_set_of_no_names(self):
        kept = KeptSets(2)
        self.put(kept, "-", None)
        self.holds(kept, "-", False)
        self.refused(kept.put_set, "-")
        self.put(kept, "a", "-\na")
        self.put(kept, "a b", "-\na b")
        self.take(kept, "-")
        self.holds(kept, "a\na b", True)
        self.refused(kept.take_set, "-")
        kept = KeptSets(3)
        for row, told in (("a", None), ("b", None), ("a b", None), ("-", "-\na\nb")):
            self.put(kept, row, told)

    def test_first_of_several_cores(self):
        # With the set put in are flowers of the cores b and y; that of y begins with an earlier set.
        kept = KeptSets(3)
        for row in ("b d", "b e", "a y", "c y"):
            self.put(kept, row, None)
        self.put(kept, "b y", "a y\nb y\nc y")

    def test_refused_changes_nothing(self):
        kept = KeptSets(2)
        for row in ("-", "a", "a b"):
            self.refused(kept.take_set, row)
        self.holds(kept, "", False)
        self.put(kept, "a", None)
        self.refused(kept.put_set, "a")
        self.refused(kept.take_set, "b")
        self.refused(kept.take_set, "a b")
        self.refused(kept.take_set, "-")
        self.holds(kept, "a", False)
        self.put(kept, "b", "a\nb")
        self.refused(kept.put_set, "b")
        self.holds(kept, "a\nb", True)
        self.take(kept, "a")
        self.refused(kept.take_set, "a")
        self.holds(kept, "b", False)

    def test_taken_out_and_put_in_again(self):
        kept = KeptSets(2)
        self.put(kept, "a", None)
        self.take(kept, "a")
        self.holds(kept, "", False)
        self.put(kept, "a", None)
        self.holds(kept, "a", False)

    def test_what_is_told_stays(self):
        kept = KeptSets(2)
        kept.put_set(("a",))
        before = kept.sets_now()
        flower = kept.put_set(("b",))
        kept.take_set(("a",))
        self.assertEqual((("a",),), before)
        self.assertEqual((("a",), ("b",)), flower)

    def test_each_keeps_its_own(self):
        one, other = KeptSets(2), KeptSets(3)
        for row in ("a", "b"):
            one.put_set((row,))
        self.holds(other, "", False)
        self.put(other, "a", None)
        self.put(other, "b", None)
        self.holds(one, "a\nb", True)
        self.holds(other, "a\nb", False)

    def test_many_puts_and_takes(self):
        picker = Picker(31)
        seen = set()
        for many in range(2, 7):
            for names, most in ((NAMES[:4], 3), (NAMES[:8], 2), (NAMES, 1), (NAMES, 6)):
                self.go_on(picker, many, picker.collection(names, 40, 0, most), seen)
        # Told a flower, told none though there is one, told none where there is none.
        self.assertLessEqual({(many, *what) for many in (3, 4, 5) for what in
                              ((True, True), (False, True), (False, False))}, seen)
        self.assertLessEqual({(many, *what) for many in (2, 6) for what in ((True, True), (False, False))}, seen)

    def go_on(self, picker, many, choice, seen):
        kept, there = KeptSets(many), set()
        for _ in range(60):
            one = choice[picker.below(len(choice))]
            put_in = len(there) < 4 or len(there) < 14 and picker.below(3) > 0
            if put_in == (one in there):
                with self.assertRaises(NoSet):
                    (kept.put_set if put_in else kept.take_set)(one)
            elif put_in:
                there.add(one)
                flowers = [some for some in flowers_by_choices(sorted(there), many) if one in some]
                told = kept.put_set(one)
                self.assertEqual(repr(min(flowers, default=None)), repr(told))
                seen.add((many, told is not None, bool(flowers_by_choices(sorted(there), many))))
            else:
                there.remove(one)
                self.assertIsNone(kept.take_set(one))
            self.assertTrue(is_collection(kept.sets_now()))
            self.assertEqual(tuple(sorted(there)), kept.sets_now())
            self.assertIs(bool(flowers_by_choices(sorted(there), many)), kept.has_flower())

    def test_fourteen_sets(self):
        for sets in (tuple(combinations(NAMES[:8], 6))[::2], ((),) + tuple((name,) for name in NAMES)):
            for many in (2, 6):
                kept = KeptSets(many)
                for at, one in enumerate(sets):
                    flowers = [some for some in flowers_by_choices(sets[:at + 1], many) if one in some]
                    self.assertEqual(min(flowers, default=None), kept.put_set(one))
                self.assertEqual(sets, kept.sets_now())


if __name__ == "__main__":
    unittest.main()

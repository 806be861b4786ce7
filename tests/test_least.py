import unittest
from itertools import combinations

from corepetals.hit.least import each_two_meet, is_full, least_rows
from corepetals.hit.thinned import least_row
from corepetals.sets.texts import names_of, read_sets
from looker import Asking, Picker, full_by_choices, hits, is_collection, least_rows_by_choices, meet_by_pairs

NAMES = tuple("abcdefghijkl")
TRIANGLE = "a b\na c\nb c"
LINES_OF_SEVEN = "a b c\na d e\na f g\nb d f\nb e g\nc d g\nc e f"


def drawn(seed, turns, least, most_names=8):
    picker = Picker(seed)
    for turn in range(turns):
        names = NAMES[:2 + turn % (most_names - 1)]
        most = min(len(names), 1 + picker.below(6))
        yield names, picker.collection(names, picker.below(13), min(least, most), most)


def without_greater(sets):
    """The sets that have not all names of another one."""
    return tuple(one for one in sets if not any(other != one and set(other) <= set(one) for other in sets))


class LeastRows(Asking, unittest.TestCase):
    def least(self, text, told):
        self.tells(read_sets(told), least_rows, read_sets(text))

    def test_no_sets(self):
        self.tells(((),), least_rows, ())

    def test_a_set_of_no_names(self):
        self.least("-", "")
        self.least("-\na", "")
        self.least("-\na b\nc d", "")

    def test_one_set(self):
        self.least("a", "a")
        self.least("a b", "a\nb")
        self.least("a b c d e f", "a\nb\nc\nd\ne\nf")

    def test_sets_apart(self):
        self.least("a\nb\nc", "a b c")
        self.least("a b\nc d", "a c\na d\nb c\nb d")

    def test_sets_that_meet(self):
        self.least("a b\nb c", "a c\nb")
        self.least(TRIANGLE, TRIANGLE)
        self.least("a b\nb c\nc d", "a c\nb c\nb d")
        self.least("a b\na c\na d", "a\nb c d")
        self.least("a x\na y\nb x\nb y", "a b\nx y")

    def test_sets_with_all_names_of_another(self):
        self.least("a\na b", "a")
        self.least("a b\na b c\nc d", "a c\na d\nb c\nb d")

    def test_longer_names(self):
        self.least("ab b\na", "a ab\na b")
        self.least("a abc\nab b", "a ab\na b\nab abc\nabc b")

    def test_least_rows_of_least_rows(self):
        self.least("a c\na d\nb c\nb d", "a b\nc d")
        self.least("a c\nb c\nb d", "a b\nb c\nc d")
        self.tells(((),), least_rows, least_rows(((),)))
        self.tells((), least_rows, least_rows(()))

    def test_lines_of_seven_are_their_own(self):
        self.least(LINES_OF_SEVEN, LINES_OF_SEVEN)

    def test_against_all_choices(self):
        lengths = set()
        for names, sets in drawn(41, 300, 1):
            told = self.asked(least_rows, sets)
            self.assertTrue(is_collection(told))
            self.assertEqual(least_rows_by_choices(names, sets), told, sets)
            self.assertEqual(len(least_row(sets)), min(map(len, told)))
            lengths.add(len(told))
        self.assertLessEqual(set(range(1, 8)), lengths)
        for names, sets in drawn(42, 60, 0):
            self.tells(least_rows_by_choices(names, sets), least_rows, sets)

    def test_handed_on(self):
        for names, sets in drawn(43, 200, 0, 12):
            told = self.asked(least_rows, sets)
            self.tells(without_greater(sets), least_rows, told)

    def test_handed_on_of_many_rows(self):
        pairs = tuple((NAMES[at], NAMES[at + 1]) for at in range(0, 12, 2))
        told = self.asked(least_rows, pairs)
        self.assertEqual(64, len(told))
        self.tells(pairs, least_rows, told)
        triples = tuple(NAMES[at:at + 3] for at in range(0, 12, 3))
        self.assertEqual(81, len(self.asked(least_rows, triples)))
        self.tells(triples, least_rows, least_rows(triples))

    def test_all_sets_of_so_many_names(self):
        for many in (1, 2, 5, 6, 7, 11, 12):
            rows = tuple(combinations(NAMES, 13 - many))
            self.assertEqual(rows, least_rows(tuple(combinations(NAMES, many))))

    def test_fourteen_sets_of_twelve_names(self):
        picker = Picker(44)
        for least, most in ((1, 3), (2, 2), (3, 3), (4, 4), (6, 6), (5, 6)):
            sets = picker.collection(NAMES, 40, least, most)
            sets = tuple(sorted(picker.some_of(sets, min(14, len(sets)))))
            told = self.asked(least_rows, sets)
            self.assertTrue(all(hits(row, sets) for row in told))
            self.assertEqual(least_rows_by_choices(NAMES, sets), told)
            self.tells(without_greater(sets), least_rows, told)


class Full(Asking, unittest.TestCase):
    def two(self, text, meet, full):
        self.tells(meet, each_two_meet, read_sets(text))
        self.tells(full, is_full, read_sets(text))

    def test_no_sets(self):
        self.two("", True, False)

    def test_set_of_no_names(self):
        self.two("-", True, False)
        self.two("-\na", False, False)
        self.two("-\na b\na c\nb c", False, False)

    def test_one_set(self):
        self.two("a", True, True)
        self.two("a b", True, False)

    def test_sets_that_do_not_meet(self):
        # The one least row has all names of a set.
        self.two("a\nb", False, False)
        self.two("a\nb\nc", False, False)
        # Only the first and the last do not meet.
        self.two("a b\na c\nb c d\nd", False, False)
        self.two("a b\na c\nb d\nc d", False, False)
        self.two("a b\nb c\nc d", False, False)

    def test_sets_that_meet(self):
        self.two("a b\na c", True, False)
        self.two("a\na b", True, True)
        self.two(TRIANGLE, True, True)
        self.two("a b c\na d e\nb d f", True, False)
        self.two("a b\na c\na d\nb c d", True, True)

    def test_lines_of_seven(self):
        self.two(LINES_OF_SEVEN, True, True)
        self.two("\n".join(LINES_OF_SEVEN.split("\n")[1:]), True, False)
        # A set more that has a line changes nothing.
        self.two(LINES_OF_SEVEN + "\na b c d", True, True)

    def test_all_sets_of_so_many_names(self):
        self.tells(True, is_full, tuple(combinations("abcde", 3)))
        self.tells(False, is_full, tuple(combinations("abcde", 3))[1:])
        self.tells(False, is_full, tuple(combinations("abcde", 4)))
        self.tells(False, is_full, tuple(combinations("abcde", 2)))

    def test_least_rows_handed_on(self):
        triples = least_rows(tuple(NAMES[at:at + 3] for at in range(0, 12, 3)))
        self.tells(False, each_two_meet, triples)
        self.tells(False, is_full, triples)
        star = least_rows(read_sets("a b\na c\na d\na e\na f\na g\na h"))
        self.tells(False, each_two_meet, star)
        lines = least_rows(read_sets(LINES_OF_SEVEN))
        self.tells(True, each_two_meet, lines)
        self.tells(True, is_full, lines)

    def test_against_all_choices(self):
        told = set()
        for turn, (names, sets) in enumerate(drawn(45, 400, 0, 7)):
            if turn % 2:
                # Sets that have one of two names, or both, meet more often.
                sets = tuple(sorted({tuple(sorted({NAMES[turn // 2 % 2], *one})) for one in sets[:4]} | {NAMES[:2]}))
            meet, full = meet_by_pairs(sets), full_by_choices(names_of(sets), sets)
            self.tells(meet, each_two_meet, sets)
            self.tells(full, is_full, sets)
            told.add((len(sets) > 1, meet, full))
        self.assertLessEqual({(True, True, True), (True, True, False), (True, False, False)}, told)

    def test_as_many_sets_that_meet_as_there_can_be(self):
        picker = Picker(46)
        told = set()
        for _ in range(30):
            sets = ()
            for one in picker.some_of(tuple(combinations(NAMES[:6], 3)), 20):
                if meet_by_pairs(sets + (one,)):
                    sets = tuple(sorted(sets + (one,)))
            for some in (sets, sets[1:]):
                full = full_by_choices(NAMES[:6], some)
                self.tells(full, is_full, some)
                told.add((len(some) == len(sets), full))
        self.assertLessEqual({(True, True), (True, False), (False, False)}, told)


if __name__ == "__main__":
    unittest.main()

import unittest
from itertools import permutations

from corepetals.errors import NoSets
from corepetals.sets.texts import link_of, names_of, read_sets, sets_shown, without_row
from looker import Picker, is_collection

NAMES = tuple("abcdefghijkl")


class Reading(unittest.TestCase):
    def test_no_signs_are_no_sets(self):
        self.assertEqual((), read_sets(""))

    def test_set_of_no_names(self):
        self.assertEqual(((),), read_sets("-"))
        self.assertEqual(((), ("a",)), read_sets("a\n-"))
        self.assertEqual(((), ("a",)), read_sets("-\na"))

    def test_one_row(self):
        self.assertEqual((("a",),), read_sets("a"))
        self.assertEqual((("a", "b", "c"),), read_sets("c a b"))

    def test_longest_and_shortest_names(self):
        self.assertEqual((("abcdefgh", "z"),), read_sets("z abcdefgh"))
        self.assertEqual((tuple("abcdef"), tuple("uvwxyz")), read_sets("z y x w v u\na b c d e f"))

    def test_names_in_order_of_letters(self):
        self.assertEqual((("a", "aa", "ab", "b", "ba"),), read_sets("b ba ab a aa"))

    def test_sets_in_order_as_tuples(self):
        told = ((), ("a",), ("a", "b"), ("a", "z"), ("aa",), ("b",), ("b", "c", "d"), ("c",))
        self.assertEqual(told, read_sets("c\nb c d\nb\naa\na z\na b\na\n-"))

    def test_rows_and_names_in_any_order(self):
        told = ((), ("a", "b", "c"), ("a", "d"), ("b",))
        for rows in permutations(told):
            for names in permutations(("a", "b", "c")):
                text = "\n".join(self.row_of(one, names) for one in rows)
                self.assertEqual(told, read_sets(text), text)

    def row_of(self, one, names):
        if one == ("a", "b", "c"):
            return " ".join(names)
        return " ".join(reversed(one)) or "-"

    def test_what_is_told_is_of_tuples(self):
        for text in ("", "-", "b a\nc"):
            told = read_sets(text)
            self.assertTrue(is_collection(told), text)
            self.assertEqual(told, read_sets(text))

    def test_more_than_the_bounds_is_not_refused(self):
        rows = [first + second for first in NAMES for second in NAMES]
        self.assertEqual(tuple((row,) for row in rows), read_sets("\n".join(reversed(rows))))
        self.assertEqual((NAMES,), read_sets(" ".join(reversed(NAMES))))


class Refusing(unittest.TestCase):
    def refused_at(self, row, text):
        with self.assertRaises(NoSets, msg=repr(text)) as caught:
            read_sets(text)
        self.assertEqual(row, caught.exception.row, repr(text))

    def test_empty_row(self):
        self.refused_at(0, "\n")
        self.refused_at(0, "\na")
        self.refused_at(0, "\n\n")
        self.refused_at(1, "a\n")
        self.refused_at(1, "-\n")
        self.refused_at(1, "a\n\nb")
        self.refused_at(2, "a\nb\n")
        self.refused_at(2, "a\nb\n\n")

    def test_blanks(self):
        for row in (" ", "  ", " a", "a ", "a  b", " a b", "a b ", " -", "- ", "a   b"):
            self.refused_at(0, row)
            self.refused_at(1, "x\n" + row)
            self.refused_at(0, row + "\nx")

    def test_name_too_long(self):
        self.refused_at(0, "abcdefghi")
        self.refused_at(1, "abcdefgh\nabcdefghi")
        self.refused_at(1, "a\nb abcdefghi c")

    def test_every_other_sign(self):
        for code in range(32, 127):
            sign = chr(code)
            if sign in " -" or sign.isalpha() and sign.islower():
                continue
            for row in (sign, "a" + sign, sign + "a", "a " + sign, sign + " a", "a" + sign + "b"):
                self.refused_at(0, row)
                self.refused_at(2, "a\nc\n" + row + "\nd")

    def test_other_line_ends_and_letters(self):
        for row in ("a\rb", "a\r", "a\tb", "a\x0bb", "a\x0c", "a\x1cb", "\x85", "a\u2028b", "\u00e9", "\u00df", "\u0430"):
            self.refused_at(1, "a\n" + row)

    def test_stroke_beside_names(self):
        for row in ("- a", "a -", "a - b", "--", "- -", "-a", "a-", "a-b"):
            self.refused_at(0, row)
            self.refused_at(1, "-\n" + row)

    def test_name_twice(self):
        self.refused_at(0, "a a")
        self.refused_at(0, "a b a")
        self.refused_at(1, "a b\nc b c")
        self.refused_at(2, "-\na b\nb b")

    def test_set_twice(self):
        self.refused_at(1, "a\na")
        self.refused_at(1, "-\n-")
        self.refused_at(1, "a b\nb a")
        self.refused_at(3, "a b c\na b\na c\nc a b")
        self.refused_at(2, "a\nb\na\nb")

    def test_first_of_several_wrong_rows(self):
        self.refused_at(1, "a\nA\n\nb b")
        self.refused_at(1, "a\n\nA")
        self.refused_at(1, "a\nb b\na\nabcdefghi")
        self.refused_at(1, "a\na\nb b")
        self.refused_at(2, "a\nb\nb\n")
        self.refused_at(0, "A\nA")

    def test_wrong_rows_beyond_the_bounds(self):
        rows = [first + second for first in NAMES for second in NAMES]
        self.refused_at(len(rows), "\n".join(rows + ["aa"]))
        self.refused_at(len(rows), "\n".join(rows + [""]))
        self.refused_at(100, "\n".join(rows[:100] + ["A"] + rows[100:]))
        self.refused_at(0, " ".join(NAMES + ("a",)))


class Showing(unittest.TestCase):
    def test_shown(self):
        self.assertEqual("", sets_shown(()))
        self.assertEqual("-", sets_shown(((),)))
        self.assertEqual("-\na\na b\nb", sets_shown(((), ("a",), ("a", "b"), ("b",))))

    def test_there_and_back(self):
        picker = Picker(1)
        for tries in list(range(15)) * 4:
            sets = picker.collection(NAMES, tries)
            text = sets_shown(sets)
            self.assertIsInstance(text, str)
            self.assertEqual(sets, read_sets(text))
            self.assertEqual(text, sets_shown(read_sets(text)))
            self.assertFalse(text.endswith("\n"))
            mixed = [" ".join(picker.some_of(one, len(one))) or "-" for one in sets]
            self.assertEqual(sets, read_sets("\n".join(picker.some_of(mixed, len(mixed)))))


class Parts(unittest.TestCase):
    SETS = ((), ("a", "b", "z"), ("a", "c"), ("b",), ("b", "c"), ("bb",))

    def test_names_each_once_in_order(self):
        self.assertEqual(("a", "b", "bb", "c", "z"), names_of(self.SETS))
        self.assertEqual(("a", "b", "c"), names_of((("b", "c"), ("a", "b", "c"))[::-1]))

    def test_names_of_nothing(self):
        self.assertEqual((), names_of(()))
        self.assertEqual((), names_of(((),)))

    def test_link_of_no_names_is_all(self):
        self.assertEqual(self.SETS, link_of(self.SETS, ()))
        self.assertEqual((), link_of((), ()))

    def test_link_of_some(self):
        self.assertEqual((("b", "z"), ("c",)), link_of(self.SETS, ("a",)))
        self.assertEqual((("a",), ("b",)), link_of(self.SETS, ("c",)))
        self.assertEqual((("z",),), link_of(self.SETS, ("a", "b")))
        self.assertEqual(((),), link_of(self.SETS, ("a", "b", "z")))

    def test_link_is_put_in_order_anew(self):
        self.assertEqual(((), ("a", "z"), ("c",)), link_of(self.SETS, ("b",)))

    def test_link_with_a_name_that_no_set_has(self):
        self.assertEqual((), link_of(self.SETS, ("y",)))
        self.assertEqual((), link_of(self.SETS, ("b", "y")))
        self.assertEqual((), link_of((), ("a",)))

    def test_names_that_are_parts_of_names(self):
        self.assertEqual(((),), link_of(self.SETS, ("bb",)))
        self.assertEqual(((), ("a", "c"), ("bb",)), without_row(self.SETS, ("b",)))

    def test_without_row(self):
        self.assertEqual(self.SETS, without_row(self.SETS, ()))
        self.assertEqual(self.SETS, without_row(self.SETS, ("y",)))
        self.assertEqual(((), ("b",), ("b", "c"), ("bb",)), without_row(self.SETS, ("a",)))
        self.assertEqual(((), ("bb",)), without_row(self.SETS, ("a", "b")))
        self.assertEqual(((), ("bb",)), without_row(self.SETS, ("b", "c", "y")))
        self.assertEqual((), without_row((("a",), ("b",)), ("a", "b")))
        self.assertEqual((), without_row((), ("a",)))

    def test_against_bags_of_names(self):
        picker = Picker(2)
        for turn in range(200):
            sets = picker.collection(NAMES, turn % 15)
            row = picker.one_set(NAMES, 0, 3)
            bags = [frozenset(one) for one in sets]
            link = sorted(tuple(sorted(bag - set(row))) for bag in bags if bag >= set(row))
            rest = sorted(tuple(sorted(bag)) for bag in bags if not bag & set(row))
            self.assertEqual(tuple(link), link_of(sets, row))
            self.assertEqual(tuple(rest), without_row(sets, row))
            self.assertEqual(tuple(sorted(frozenset().union(*bags))), names_of(sets))
            self.assertTrue(is_collection(link_of(sets, row)))
            self.assertTrue(is_collection(without_row(sets, row)))
            self.assertIsInstance(names_of(sets), tuple)


if __name__ == "__main__":
    unittest.main()

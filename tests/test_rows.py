import unittest
from itertools import combinations, permutations

from corepetals.found.exact import greatest_flower
from corepetals.sets.flowers import core_of
from corepetals.words.rows import are_row, as_sets, first_row, most_words
from looker import (Asking, Picker, first_row_by_choices, is_collection, most_without_by_choices, row_by_words,
                    words_by_choices)

LENGTHS_AND_LETTERS = ((1, 1), (1, 2), (1, 3), (1, 4), (2, 1), (2, 2), (2, 3), (3, 1), (3, 2), (4, 1))


def drawn(seed, turns):
    """Words of one length, few letters and many."""
    picker = Picker(seed)
    for turn in range(turns):
        choice = words_by_choices(1 + turn % 4, 2 + turn % 3)
        yield tuple(sorted(picker.some_of(choice, min(len(choice), picker.below(15)))))


class AreRow(Asking, unittest.TestCase):
    def row(self, text, truth):
        for words in permutations(text.split()):
            self.tells(truth, are_row, words)

    def test_fewer_than_two(self):
        self.tells(False, are_row, ())
        for word in ("a", "abcd"):
            self.tells(False, are_row, (word,))

    def test_any_two_are_one(self):
        for some in (("a", "b"), ("aa", "ab"), ("aa", "bb"), ("abcd", "abdc"), ("abab", "baba")):
            self.tells(True, are_row, some)

    def test_three(self):
        self.row("a b c", True)
        self.row("aa ab ac", True)
        self.row("aa bb cc", True)
        self.row("ab bc ca", True)
        self.row("aab bab cab", True)
        # At some place two have one letter, and the third another one.
        self.row("aa ab ba", False)
        self.row("aa ab bc", False)
        self.row("aa bb ca", False)
        self.row("abc aba abb", True)
        self.row("abc aba bbb", False)

    def test_four(self):
        self.row("a b c d", True)
        self.row("aab bab cab dab", True)
        self.row("aa bb cc dc", False)
        self.row("ab ac ad bd", False)

    def test_only_the_last_place_is_wrong(self):
        self.row("aaaa aaab aaac", True)
        self.row("abca bbcb cbcb", False)

    def test_more_words_than_letters(self):
        self.tells(False, are_row, ("aa", "ab", "ac", "ad", "ba"))

    def test_against_the_words(self):
        told = set()
        for words in drawn(71, 60):
            for many in (2, 3, 4):
                for some in list(combinations(words, many))[::7]:
                    self.tells(row_by_words(some), are_row, some)
                    told.add((many, row_by_words(some)))
        self.assertEqual({(2, True), (3, True), (3, False), (4, True), (4, False)}, told)


class FirstRow(Asking, unittest.TestCase):
    def first(self, text, many, told):
        self.tells(told if told is None else tuple(told.split()), first_row, tuple(text.split()), many)

    def test_none_and_one_word(self):
        for many in (2, 3, 4):
            self.first("", many, None)
            self.first("a", many, None)
            self.first("abcd", many, None)

    def test_two(self):
        self.first("aa ab ba", 2, "aa ab")
        self.first("b d", 2, "b d")
        self.first("b d", 3, None)

    def test_first_of_several(self):
        self.first("a b c d", 3, "a b c")
        self.first("aa ab ba bb ca cc", 3, "aa ba ca")
        self.first("aa ab ac bb cc", 3, "aa ab ac")
        self.first("ab ba bb cc da", 3, "ab ba cc")
        self.first("aa ab bc cb dd", 3, "aa bc cb")
        self.first("a b c d", 4, "a b c d")

    def test_none_is_there(self):
        self.first("aa ab ba bb", 3, None)
        self.first("aa ab ac ba bb bc ca cb cc", 4, None)

    def test_against_all_choices(self):
        told = set()
        for words in drawn(72, 300):
            for many in (2, 3, 4):
                row = self.asked(first_row, words, many)
                self.assertEqual(first_row_by_choices(words, many), row, words)
                told.add((many, row is None))
        self.assertEqual({(many, none) for many in (2, 3, 4) for none in (True, False)}, told)


class AsSets(Asking, unittest.TestCase):
    def test_none_and_one_word(self):
        self.tells((), as_sets, ())
        self.tells((("aa",),), as_sets, ("a",))
        self.tells((("aa", "bb", "cc", "dd"),), as_sets, ("abcd",))

    def test_some_words(self):
        self.tells((("aa", "bb"), ("ab", "ba"), ("ad", "bd")), as_sets, ("ab", "ba", "dd"))

    def test_rows_are_flowers(self):
        told = set()
        for words in drawn(73, 60):
            sets = self.asked(as_sets, words)
            self.assertTrue(is_collection(sets))
            self.assertEqual(len(words), len(sets))
            for many in (2, 3, 4):
                # The sets stand in the order of the words.
                for some, flower in list(zip(combinations(words, many), combinations(sets, many)))[::5]:
                    self.assertEqual(row_by_words(some), core_of(flower) is not None)
                    told.add(row_by_words(some))
        self.assertEqual({True, False}, told)

    def test_handed_on(self):
        self.assertEqual(as_sets(("aab", "bab", "cab")), greatest_flower(as_sets(("aaa", "aab", "bab", "cab"))))


class MostWords(Asking, unittest.TestCase):
    def most(self, length, letters, many, told):
        told = tuple(told.split())
        self.tells((len(told), told), most_words, length, letters, many)

    def test_of_two_one_alone(self):
        for length, letters in LENGTHS_AND_LETTERS:
            self.most(length, letters, 2, "a" * length)

    def test_one_place(self):
        self.most(1, 4, 3, "a b")
        self.most(1, 4, 4, "a b c")
        self.most(1, 3, 4, "a b c")
        self.most(1, 3, 3, "a b")

    def test_two_places(self):
        self.most(2, 3, 3, "aa ab ba bb")
        self.most(2, 3, 4, "aa ab ac ba bb bc ca cb cc")
        self.most(2, 2, 3, "aa ab ba bb")

    def test_three_places(self):
        self.most(3, 2, 3, "aaa aab aba abb baa bab bba bbb")
        self.most(3, 1, 3, "aaa")

    def test_against_all_choices(self):
        for length, letters in LENGTHS_AND_LETTERS:
            words = words_by_choices(length, letters)
            for many in (2, 3, 4):
                rows = [some for some in combinations(words, many) if row_by_words(some)]
                most = most_without_by_choices(words, rows)
                self.tells((len(most), most), most_words, length, letters, many)

    def test_somewhat_beyond_the_bounds(self):
        self.tells((3, ("a", "b", "c")), most_words, 1, 9, 4)
        words = words_by_choices(2, 4)
        for many in (3, 4):
            rows = [some for some in combinations(words, many) if row_by_words(some)]
            most = most_without_by_choices(words, rows)
            self.tells((len(most), most), most_words, 2, 4, many)


if __name__ == "__main__":
    unittest.main()

"""Rows of words: at each place all one letter, or all unlike ones."""

from corepetals.found.exact import most_free
from corepetals.sets.flowers import core_of
from corepetals.sets.single import choices_of
from corepetals.sets.texts import LETTERS


def are_row(some):
    """Whether the words, two at least, are a row."""
    # Words are one just where their sets are a flower.
    return core_of(tuple([set_of_word(word) for word in some])) is not None


def set_of_word(word):
    """The set of a name for each place: the place's letter and the word's letter there."""
    return tuple([LETTERS[at] + letter for at, letter in enumerate(word)])


def as_sets(words):
    """The collection of the words' sets."""
    return tuple(sorted([set_of_word(word) for word in words]))


def first_row(words, many):
    """The first row of so many of the words, or None."""
    for some in choices_of(words, many):
        if are_row(some):
            return some
    return None


def most_words(length, letters, many):
    """The most words of the first letters that hold no row of so many, and the first such tuple."""
    words = all_words(length, LETTERS[:letters])
    rows = [some for some in choices_of(words, many) if are_row(some)]
    most = most_free(words, rows, -1)
    return len(most), most


def all_words(length, letters):
    """All words of the length over the letters, in order."""
    words = ("",)
    for turn in range(length):
        words = tuple([word + letter for word in words for letter in letters])
    return words

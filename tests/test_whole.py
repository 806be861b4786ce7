import unittest
from itertools import product

from corepetals.errors import NoAsk, NoFlower, NoSet, NoSets, PetalError
from corepetals.sets.texts import read_sets
from corepetals.whole import Desk
from looker import (Picker, apart_by_choices, fewest_by_choices, flowers_by_choices, full_by_choices,
                    greatest_by_choices, least_by_choices, least_rows_by_choices, meet_by_pairs,
                    not_spread_by_choices, share_by_choices, thinned_by_words, way_by_words)

NAMES = tuple("abcdef")
FOUR = "a b;a c;b c;d"
WORDS = ("put", "show", "flower", "trace", "greatest", "apart", "count", "hit", "thin", "share", "spread", "parts",
         "least", "full")
# A line for each kind but put, with numbers that are right.
LINES = ("show {}", "flower {} 2", "trace {} 3", "greatest {}", "apart {}", "count {} 2", "hit {}", "thin {} 1",
         "share {} 1 2", "spread {} 2", "parts {}", "least {}", "full {}")


def written(one):
    return " ".join(one) if one else "-"


def rows_by_words(sets, word, numbers):
    """What a line asks, told by the slow tellings."""
    names = sorted({name for one in sets for name in one})
    truths = {True: "yes", False: "no"}
    if word == "show":
        return [written(one) for one in sets]
    if word == "flower":
        return [written(one) for one in way_by_words(sets, numbers[0])[0] or ()]
    if word == "trace":
        return [f"{chosen} {name or '-'} {many}" for chosen, name, many in way_by_words(sets, numbers[0])[1]]
    if word == "greatest":
        return [written(one) for one in greatest_by_choices(sets) or ()]
    if word == "apart":
        return [written(one) for one in apart_by_choices(sets)]
    if word == "count":
        return [str(len(flowers_by_choices(sets, numbers[0])))]
    if word in ("hit", "spread"):
        row = least_by_choices(names, sets) if word == "hit" else not_spread_by_choices(names, sets, numbers[0])
        return [] if row is None else [" ".join(row)]
    if word == "thin":
        steps = thinned_by_words(sets, numbers[0])
        return [str(len(steps) - 1)] + [written(one) for one in steps[-1]]
    if word == "share":
        return ["{}/{}".format(*share_by_choices(names, sets, numbers))]
    if word == "parts":
        return [" ; ".join(map(written, part)) for part in fewest_by_choices(sets)]
    if word == "least":
        return [written(row) for row in least_rows_by_choices(names, sets)]
    return [truths[meet_by_pairs(sets)], truths[full_by_choices(names, sets)]]


class Asked(unittest.TestCase):
    def setUp(self):
        self.desk = Desk()

    def tells(self, line, *rows):
        for _ in range(2):
            self.assertEqual(repr(list(rows)), repr(self.desk.ask(line)), line)

    def refused(self, kind, line):
        """The refusal, which is of this kind alone and has changed nothing."""
        before = self.all_shown()
        with self.assertRaises(PetalError) as caught:
            self.desk.ask(line)
        self.assertIsInstance(caught.exception, ValueError)
        self.assertEqual([kind], [one for one in (NoAsk, NoFlower, NoSet, NoSets)
                                  if isinstance(caught.exception, one)], line)
        self.assertEqual(before, self.all_shown(), line)
        return caught.exception

    def all_shown(self):
        shown = {}
        for name in ("x", "y", "e", "o", "abcdefgh") + WORDS:
            try:
                shown[name] = self.desk.ask(f"show {name}")
            except NoAsk:
                shown[name] = None
        return shown


class Lines(Asked):
    def test_four_sets(self):
        self.tells(f"put x {FOUR}")
        self.tells("show x", "a b", "a c", "b c", "d")
        self.tells("flower x 2", "a b", "d")
        self.tells("trace x 2", "2 - 4")
        self.tells("flower x 3")
        self.tells("trace x 3", "2 a 4", "2 b 2", "1 - 1")
        self.tells("greatest x", "a b", "a c")
        self.tells("apart x", "a b", "d")
        self.tells("count x 2", "6")
        self.tells("count x 3", "0")
        self.tells("hit x", "a b d")
        self.tells("thin x 0", "4", "-")
        self.tells("thin x 1", "3", "-")
        self.tells("thin x 2", "0", "a b", "a c", "b c", "d")
        self.tells("share x 1 2", "3/4")
        self.tells("spread x 2")
        self.tells("spread x 3", "a")
        self.tells("parts x", "a b ; a c", "b c ; d")
        self.tells("least x", "a b d", "a c d", "b c d")
        self.tells("full x", "no", "no")

    def test_no_sets(self):
        self.tells("put e ")
        for line, rows in (("show e", []), ("flower e 2", []), ("trace e 2", ["0 - 0"]), ("greatest e", []),
                           ("apart e", []), ("count e 6", ["0"]), ("hit e", [""]), ("thin e 0", ["0"]),
                           ("thin e 4", ["0"]), ("share e 1 2", ["0/1"]), ("spread e 1", []), ("parts e", []),
                           ("least e", ["-"]), ("full e", ["yes", "no"])):
            self.tells(line, *rows)

    def test_set_of_no_names_alone(self):
        self.tells("put o -")
        for line, rows in (("show o", ["-"]), ("flower o 2", []), ("trace o 2", ["1 - 1"]), ("greatest o", []),
                           ("apart o", ["-"]), ("count o 2", ["0"]), ("hit o", []), ("thin o 0", ["0", "-"]),
                           ("thin o 1", ["0", "-"]), ("share o 0 1", ["1/1"]), ("spread o 99", []),
                           ("parts o", ["-"]), ("least o", []), ("full o", ["yes", "no"])):
            self.tells(line, *rows)

    def test_set_of_no_names_beside_others(self):
        self.tells("put o a;-")
        for line, rows in (("show o", ["-", "a"]), ("flower o 2", ["-", "a"]), ("trace o 2", ["2 - 2"]),
                           ("greatest o", ["-", "a"]), ("apart o", ["-", "a"]), ("count o 2", ["1"]),
                           ("thin o 1", ["1", "-"]), ("parts o", ["- ; a"]), ("full o", ["no", "no"])):
            self.tells(line, *rows)

    def test_full(self):
        self.tells("put x a b;a c;b c")
        self.tells("full x", "yes", "yes")
        self.tells("put x a b;a c")
        self.tells("full x", "yes", "no")

    def test_share_need_not_be_in_least_numbers(self):
        self.tells(f"put x {FOUR}")
        for line in ("share x 1 2", "share x 2 4", "share x 49 98"):
            self.tells(line, "3/4")
        self.tells("share x 0 7", "0/1")
        self.tells("share x 99 99", "1/1")
        self.tells("put y a b")
        self.tells("share y 2 6", "1/9")

    def test_spread_of_several_names(self):
        self.tells("put x a b;a c;b c")
        self.tells("spread x 1")
        self.tells("spread x 2", "a")
        # Each name is in one of two sets, two times one is no more; but of two names four times one is.
        self.tells("put x a b;c")
        self.tells("spread x 2", "a b")

    def test_rows_in_any_order(self):
        self.tells("put x d;c b;a;b a")
        self.tells("show x", "a", "a b", "b c", "d")

    def test_long_names(self):
        self.tells("put x abcdefgh ab;b")
        self.tells("show x", "ab abcdefgh", "b")
        self.tells("parts x", "ab abcdefgh ; b")

    def test_least_and_greatest_numbers(self):
        self.tells(f"put x {FOUR}")
        for line in ("flower x 2", "flower x 6", "trace x 6", "count x 6", "thin x 0", "thin x 4", "share x 0 1",
                     "share x 99 99", "share x 0 99", "spread x 1", "spread x 99", "spread x 10"):
            self.assertIsInstance(self.desk.ask(line), list)

    def test_told_list_is_the_askers_own(self):
        self.desk.ask(f"put x {FOUR}")
        for line in LINES + ("put x " + FOUR,):
            told = self.desk.ask(line.format("x"))
            kept = list(told)
            told.append("strange")
            self.assertEqual(kept, self.desk.ask(line.format("x")))

    def test_told_as_the_parts_tell(self):
        picker = Picker(101)
        numbers = {"flower": range(2, 7), "trace": range(2, 7), "count": range(2, 7), "thin": range(5),
                   "spread": (1, 2, 3, 4, 9, 99), "share": ((1, 2), (2, 4), (3, 9), (0, 5), (5, 5), (98, 99))}
        for turn in range(80):
            names = NAMES[:1 + turn % 6]
            sets = picker.collection(names, picker.below(8), picker.below(2), min(len(names), 1 + picker.below(4)))
            self.tells("put x " + ";".join(map(written, sets)))
            for word in WORDS[1:]:
                for number in numbers.get(word, ((),)):
                    number = number if isinstance(number, tuple) else (number,)
                    line = " ".join([word, "x"] + [str(one) for one in number])
                    self.tells(line, *rows_by_words(sets, word, number))


class Names(Asked):
    def test_of_one_letter_and_of_eight(self):
        for name in ("a", "z", "abcdefgh", "zzzzzzzz"):
            self.tells(f"put {name} a;b")
            self.tells(f"show {name}", "a", "b")
            self.tells(f"count {name} 2", "1")

    def test_words_of_the_lines_themselves(self):
        for at, word in enumerate(WORDS):
            self.desk.ask(f"put {word} {NAMES[at % 6]};{word}")
        for at, word in enumerate(WORDS):
            self.tells(f"show {word}", *sorted((NAMES[at % 6], word)))
            for line in LINES:
                self.assertIsInstance(self.desk.ask(line.format(word)), list)

    def test_in_the_place_of_one_of_that_name(self):
        self.tells("put x a;b")
        self.tells("put y c")
        self.tells("put x d")
        self.tells("show x", "d")
        self.tells("show y", "c")
        self.tells("put x ")
        self.tells("show x")
        self.tells("show y", "c")

    def test_each_desk_keeps_its_own(self):
        other = Desk()
        self.desk.ask("put x a")
        with self.assertRaises(NoAsk):
            other.ask("show x")
        other.ask("put x b")
        self.tells("show x", "a")


class Refused(Asked):
    def setUp(self):
        super().setUp()
        self.desk.ask(f"put x {FOUR}")
        self.desk.ask("put e ")

    def test_other_words(self):
        for line in ("", " ", "x", "shows x", "sho x", "Show x", "SHOW x", "PUT x a", "take x", "show;x", "puts x a",
                     "putx a", "-", "2", "x show"):
            self.refused(NoAsk, line)

    def test_words_lacking(self):
        for line in WORDS:
            self.refused(NoAsk, line)
        for word in ("flower", "trace", "count", "thin", "share", "spread"):
            self.refused(NoAsk, f"{word} x")
            self.refused(NoAsk, f"{word} 2")
        self.refused(NoAsk, "share x 1")
        # Without the blank behind the name there is no text.
        for line in ("put", "put ", "put x", "put y"):
            self.refused(NoAsk, line)

    def test_too_many_words(self):
        for line in LINES:
            for more in ("x", "2", "1 2", "-"):
                self.refused(NoAsk, f"{line.format('x')} {more}")

    def test_blanks(self):
        for line in LINES:
            line = line.format("x")
            self.refused(NoAsk, " " + line)
            self.refused(NoAsk, line + " ")
            self.refused(NoAsk, line.replace(" ", "  "))
            self.refused(NoAsk, line.replace(" ", "  ", 1))
            self.refused(NoAsk, line.replace(" ", "\t"))
        for line in (" put x a", "put  x a", "put  x", "  put x a", "put  "):
            self.refused(NoAsk, line)

    def test_line_ends(self):
        for line in LINES + ("put {} a", "put {} ", "put {} a;b"):
            line = line.format("x")
            self.refused(NoAsk, line + "\n")
            self.refused(NoAsk, "\n" + line)
            self.refused(NoAsk, line.replace(" ", "\n", 1))
        # Even where rows would be parted by it, or the text is wrong besides.
        for line in ("put x a\nb", "put x a\n;", "put x A\n", "put X a\n", "\n"):
            self.refused(NoAsk, line)

    def test_names_that_are_none(self):
        for name in ("X", "x1", "1", "-", "abcdefghi", "a-b", "x;", ";", "\u00e4", "x\t"):
            for line in LINES:
                self.refused(NoAsk, line.format(name))
            # A wrong name is told ahead of a wrong text.
            for text in ("a", "", "A", "a;a", " "):
                self.refused(NoAsk, f"put {name} {text}")

    def test_names_that_are_not_there(self):
        for name in ("y", "xx", "show", "a", "zzzzzzzz"):
            for line in LINES:
                self.refused(NoAsk, line.format(name))

    def test_numbers(self):
        wrong = ("", "-", "-1", "+2", "02", "00", "2.0", "2a", "a", "x", "1/2", "\u0662", "100", "999999999999", "9" * 800,
                 "1_0", "0x2", "two", "-0")
        for word in ("flower", "trace", "count", "thin", "spread", "share x 1", "share x 0"):
            line = f"{word} {{}}" if " " in word else f"{word} x {{}}"
            for number in wrong:
                self.refused(NoAsk, line.format(number))
        for number in wrong:
            self.refused(NoAsk, f"share x {number} 99")

    def test_numbers_beyond_their_bounds(self):
        for word in ("flower", "trace", "count"):
            for number in (0, 1, 7, 8, 10, 26):
                self.refused(NoAsk, f"{word} x {number}")
        for number in (5, 6, 10, 40):
            self.refused(NoAsk, f"thin x {number}")
        for number in (0, 100, 101):
            self.refused(NoAsk, f"spread x {number}")
        for above, below in ((0, 0), (1, 0), (0, 100), (100, 100), (100, 99)):
            self.refused(NoAsk, f"share x {above} {below}")

    def test_below_less_than_above(self):
        for above, below in ((2, 1), (99, 98), (99, 1), (10, 9)):
            self.refused(NoAsk, f"share x {above} {below}")

    def test_names_are_not_the_only_thing_asked(self):
        self.refused(NoAsk, "flower y 9")
        self.refused(NoAsk, "flower x 9 9")
        self.refused(NoAsk, "share y 2 1")

    def test_texts(self):
        for text, row in ((" ", 0), ("a ", 0), (" a", 0), ("a  b", 0), (";", 0), ("a;", 1), (";a", 0), ("a;;b", 1),
                          ("A", 0), ("a;B", 1), ("a a", 0), ("a;b b;C", 1), ("a;a", 1), ("a b;b a", 1), ("-;-", 1),
                          ("- a", 0), ("a -", 0), ("a ; b", 0), ("a; b", 1), ("a;b ", 1), ("abcdefghi", 0),
                          ("a;b;c;d;e;ff1", 5), ("a,b", 0), ("--", 0), ("a b;c;2", 2)):
            for name in ("x", "y", "put"):
                error = self.refused(NoSets, f"put {name} {text}")
                self.assertEqual(row, error.row, text)

    def test_what_is_refused_changes_nothing(self):
        self.refused(NoSets, "put x a;a")
        self.tells("show x", "a b", "a c", "b c", "d")
        self.refused(NoSets, "put y a;a")
        self.refused(NoAsk, "show y")

    def test_all_short_lines(self):
        # Whatever is said, it is answered by rows or refused with an error that is due.
        words = ("put", "show", "count", "x", "y", "2", "", "-", "a;a")
        for many in (1, 2, 3):
            for some in product(words, repeat=many):
                line = " ".join(some)
                right = (some[0] == "show" and some[1:] == ("x",)
                         or some[0] == "count" and some[1:] == ("x", "2"))
                if some[0] == "put" and many == 3 and some[1] in ("put", "show", "count", "x", "y"):
                    continue
                if right:
                    self.assertIsInstance(self.desk.ask(line), list)
                else:
                    self.refused(NoAsk, line)


if __name__ == "__main__":
    unittest.main()

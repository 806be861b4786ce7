import unittest
from fractions import Fraction
from math import gcd

from corepetals.near.shares import is_near, not_spread, share_taken
from corepetals.sets.texts import read_sets
from looker import Asking, Picker, not_spread_by_choices, share_by_choices

NAMES = tuple("abcdefghijkl")
NONE, HALF, ALL = (0, 1), (1, 2), (1, 1)
SHARES = (NONE, (1, 7), (1, 3), HALF, (5, 8), (9, 10), ALL)


def drawn(seed, turns, many_names=7, most_sets=14):
    picker = Picker(seed)
    for turn in range(turns):
        names = NAMES[:1 + turn % many_names]
        most = min(len(names), 1 + picker.below(6))
        yield picker.collection(names, picker.below(most_sets + 1), picker.below(2), most)


class ShareTaken(Asking, unittest.TestCase):
    def share(self, text, share, told):
        self.tells(told, share_taken, read_sets(text), share)

    def test_no_sets(self):
        for share in SHARES:
            self.share("", share, NONE)

    def test_the_set_of_no_names_is_always_taken(self):
        for share in SHARES:
            self.share("-", share, ALL)
            self.share("-\na\nb c", share, ALL)

    def test_share_of_0_and_of_1(self):
        for text in ("a", "a b", "a\nb", "a b\na c\nb c", "a b c d e f"):
            self.share(text, NONE, NONE)
            self.share(text, ALL, ALL)

    def test_one_set(self):
        self.share("a", (2, 7), (2, 7))
        self.share("a b", HALF, (1, 4))
        self.share("a b c", (2, 3), (8, 27))
        self.share("a b c d e f", HALF, (1, 64))

    def test_sets_apart(self):
        self.share("a\nb", HALF, (3, 4))
        self.share("a\nb\nc", (1, 3), (19, 27))
        self.share("a b\nc d", HALF, (7, 16))

    def test_sets_that_meet(self):
        self.share("a b\na c", HALF, (3, 8))
        self.share("a b\na c\nb c", HALF, HALF)
        self.share("a b\na c\nb c", (1, 3), (7, 27))
        self.share("a b\nb c\nc d", HALF, HALF)

    def test_a_set_that_has_another(self):
        self.share("a\na b\na b c", (3, 5), (3, 5))

    def test_without_a_common_divisor(self):
        self.share("a b", (2, 3), (4, 9))
        self.share("a\nb", (3, 4), (15, 16))
        # 3/4 to the second twice, less its fourth power, is 207 of 256 parts.
        self.share("a b\nc d", (3, 4), (207, 256))
        # A share that is not in least numbers is the same share.
        self.share("a b", (2, 4), (1, 4))
        self.share("a b\na c\nb c", (4, 8), HALF)

    def test_numbers_of_twelve_figures(self):
        great = 999999999999
        self.share("a b c", (1, great), (1, great * great * great))
        self.share("a\nb", (great - 1, great), (great * great - 1, great * great))
        sets = tuple((name,) for name in NAMES)
        told = 1 - Fraction(1, great) ** 12
        self.tells((told.numerator, told.denominator), share_taken, sets, (great - 1, great))

    def test_against_all_choices(self):
        for turn, sets in enumerate(drawn(31, 300)):
            share = SHARES[turn % len(SHARES)]
            above, below = self.asked(share_taken, sets, share)
            self.assertEqual(share_by_choices(NAMES[:7], sets, share), (above, below), (sets, share))
            self.assertEqual(1, gcd(above, below))
            self.assertTrue(0 <= above <= below)

    def test_twelve_names(self):
        picker = Picker(32)
        for most in (2, 3, 4, 6):
            sets = picker.collection(NAMES, 14, 1, most)
            self.tells(share_by_choices(NAMES, sets, (2, 5)), share_taken, sets, (2, 5))


class IsNear(Asking, unittest.TestCase):
    def near(self, truth, text, core, share, less):
        self.tells(truth, is_near, read_sets(text), tuple(core), share, less)

    def test_no_sets_are_never_near(self):
        for less in (NONE, HALF, ALL, (3, 1)):
            self.near(False, "", "", HALF, less)
            self.near(False, "", "a", ALL, less)

    def test_more_not_as_much(self):
        self.near(False, "a", "", HALF, HALF)
        self.near(True, "a", "", HALF, (2, 3))
        self.near(False, "a", "", HALF, (1, 3))
        self.near(False, "a b\na c", "a", HALF, (1, 4))
        self.near(True, "a b\na c", "a", HALF, (1, 3))
        self.near(True, "a b\na c", "a", HALF, (250000000001, 999999999999))

    def test_core_goes_out_ahead(self):
        # With the core the sets are taken by 3/8 alone, without it by 3/4.
        self.near(True, "a b\na c", "a", HALF, HALF)
        self.near(False, "a b\na c", "", HALF, HALF)

    def test_each_set_has_the_core(self):
        self.near(False, "a b\na c\nd", "a", HALF, ALL)
        self.near(False, "a\nb", "a", HALF, ALL)
        self.near(False, "a b\na c", "d", HALF, ALL)
        self.near(False, "a b\na c", "ab", HALF, ALL)
        self.near(False, "-\na", "a", ALL, ALL)
        self.near(True, "a b c\na b d", "ab", HALF, ALL)

    def test_set_that_is_the_core(self):
        self.near(True, "a", "a", NONE, (1, 100))
        self.near(False, "a", "a", ALL, NONE)
        self.near(True, "a\na b", "a", NONE, (1, 999999999999))
        self.near(True, "-", "", NONE, (1, 7))
        self.near(False, "-", "", ALL, NONE)

    def test_share_of_0_and_of_1(self):
        self.near(False, "a", "", NONE, ALL)
        self.near(True, "a", "", NONE, (8, 7))
        self.near(True, "a", "", ALL, (1, 9))
        self.near(False, "a", "", ALL, NONE)

    def test_against_shares(self):
        truths = [0, 0]
        picker = Picker(33)
        for turn, sets in enumerate(drawn(34, 300, 7, 8)):
            core = (NAMES[turn % 3],) if turn % 4 else ()
            if turn % 5:
                sets = tuple(sorted({tuple(sorted(set(one + core))) for one in sets}))
            share = SHARES[picker.below(len(SHARES))]
            less = SHARES[picker.below(len(SHARES))]
            petals = [set(one) - set(core) for one in sets]
            taken = Fraction(*share_by_choices(NAMES[:7], petals, share))
            truth = (bool(sets) and all(set(core) <= set(one) for one in sets)
                     and taken > 1 - Fraction(*less))
            truths[truth] += 1
            self.tells(truth, is_near, sets, core, share, less)
        self.assertGreater(min(truths), 50)


class NotSpread(Asking, unittest.TestCase):
    def not_spread(self, text, r, told):
        self.tells(told if told is None else tuple(told.split()), not_spread, read_sets(text), r)

    def test_no_sets(self):
        for r in (1, 2, 99):
            self.not_spread("", r, None)

    def test_the_set_of_no_names(self):
        for r in (1, 2, 99):
            self.not_spread("-", r, None)
        self.not_spread("-\na", 2, None)
        self.not_spread("-\na", 3, "a")

    def test_r_of_1(self):
        for text in ("a", "a b c", "a b\na c\nb c", "a\na b"):
            self.not_spread(text, 1, None)

    def test_one_set(self):
        self.not_spread("a", 2, "a")
        self.not_spread("c b", 2, "b")

    def test_as_many_are_no_more(self):
        self.not_spread("a\nb", 2, None)
        self.not_spread("a\nb", 3, "a")
        self.not_spread("a b\na c\nd e\nf g", 2, None)
        self.not_spread("a b\na c\nd e\nf g", 3, "a")

    def test_row_of_several_names(self):
        self.not_spread("a b\na b c\nd\ne\nf\ng", 2, "a b")
        self.not_spread("a b c\nd\ne\nf\ng\nh", 2, "a b c")
        self.not_spread("a b c\nd\ne\nf\ng\nh\ni\nj", 2, None)

    def test_fewest_names_ahead(self):
        # a and b are in too many as a pair, but z is by itself.
        self.not_spread("a b\na b c\nd z\ne z\nf z\ng z", 2, "z")

    def test_first_of_several(self):
        self.not_spread("b c\nb d\na c\na d", 3, "a")
        self.not_spread("a c d\na b c d\ne\nf\ng\nh", 2, "a c")

    def test_row_need_not_be_a_set(self):
        self.not_spread("a b x\na b y\nc\nd\ne\nf", 2, "a b")

    def test_great_numbers(self):
        self.not_spread("a\nb\nc", 999999999999, "a")
        self.not_spread("-", 999999999999, None)

    def test_against_all_choices(self):
        sizes = set()
        for turn, sets in enumerate(drawn(35, 400)):
            r = 1 + turn % 3
            told = self.asked(not_spread, sets, r)
            self.assertEqual(not_spread_by_choices(NAMES[:7], sets, r), told, (sets, r))
            sizes.add(told if told is None else len(told))
        self.assertLessEqual({None, 1, 2}, sizes)

    def test_twelve_names(self):
        picker = Picker(36)
        sizes = set()
        for turn in range(30):
            sets = picker.collection(NAMES, 14, 0, 1 + turn % 6)
            told = self.asked(not_spread, sets, 2)
            self.assertEqual(not_spread_by_choices(NAMES, sets, 2), told, sets)
            sizes.add(told if told is None else len(told))
        self.assertLessEqual({None, 1, 2, 3}, sizes)


if __name__ == "__main__":
    unittest.main()

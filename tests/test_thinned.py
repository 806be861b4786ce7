import unittest
from itertools import combinations

from corepetals.hit.thinned import least_row, thinned
from corepetals.sets.texts import read_sets
from looker import Asking, Picker, has_flower, hits, is_collection, least_by_choices, thinned_by_words

NAMES = tuple("abcdefghijkl")
ALL_APART = tuple((name,) for name in NAMES)


def drawn(seed, turns, least):
    """Collections; in every third each set has one of two names, so that flowers have cores and rows hit."""
    picker = Picker(seed)
    for turn in range(turns):
        if turn % 3 == 0:
            sets = picker.collection(NAMES, 14, 1, 1 + picker.below(2))
            yield tuple(sorted({tuple(sorted({NAMES[picker.below(2)], *one})) for one in sets}))
        else:
            names = NAMES[:2 + turn % 11]
            most = min(len(names), 1 + picker.below(6))
            yield picker.collection(names, picker.below(15), min(least, most), most)


class LeastRow(Asking, unittest.TestCase):
    def least(self, text, told):
        self.tells(told if told is None else tuple(told.split()), least_row, read_sets(text))

    def test_no_sets(self):
        self.tells((), least_row, ())

    def test_a_set_of_no_names(self):
        self.least("-", None)
        self.least("-\na", None)
        self.least("a b\n-\na c", None)

    def test_one_set(self):
        self.least("a", "a")
        self.least("c b f", "b")

    def test_one_name_hits_all(self):
        self.least("a b\nb c", "b")
        self.least("a z\nb z\nc z", "z")

    def test_several_names(self):
        self.least("a b\nc d", "a c")
        self.least("a b\na c\nb c", "a b")
        self.least("a\nb\nc", "a b c")

    def test_fewer_names_though_later(self):
        self.least("a x\na y\nb x\nb y\nc x\nc y", "x y")

    def test_first_of_several(self):
        self.least("b c\na d", "a b")
        self.least("a b\nc d\na c\nb d", "a d")
        self.least("a b\nb c\nc d", "a c")
        self.least("b e\nc e\na d", "a e")

    def test_names_longer_than_others(self):
        self.least("ab b\nab c\na", "a ab")
        self.least("b\nbb", "b bb")

    def test_each_name_needed(self):
        self.tells(NAMES, least_row, ALL_APART)

    def test_somewhat_beyond_the_bounds(self):
        names = tuple("abcdefghijklmnopqrstuvwx")
        self.tells(names, least_row, tuple((name,) for name in names))

    def test_against_all_choices(self):
        sizes = set()
        for sets in drawn(21, 300, 1):
            told = self.asked(least_row, sets)
            self.assertEqual(least_by_choices(NAMES, sets), told, sets)
            sizes.add(len(told))
        self.assertLessEqual({0, 1, 2, 3, 4}, sizes)
        for sets in drawn(22, 40, 0):
            self.tells(least_by_choices(NAMES, sets), least_row, sets)


class Thinned(Asking, unittest.TestCase):
    def thin(self, text, t, told, number):
        self.tells((read_sets(told), number), thinned, read_sets(text), t)

    def test_no_sets(self):
        for t in range(5):
            self.thin("", t, "", 0)

    def test_the_set_of_no_names_alone(self):
        for t in range(5):
            self.thin("-", t, "-", 0)

    def test_one_set(self):
        self.thin("a b", 0, "-", 1)
        for t in range(1, 5):
            self.thin("a b", t, "a b", 0)

    def test_t_of_0(self):
        self.thin("a\nb", 0, "-", 2)
        self.thin("-\na", 0, "-", 1)
        self.thin("a b\na c\nb c\n-\nd", 0, "-", 4)

    def test_t_of_1(self):
        self.thin("a\nb", 1, "-", 1)
        self.thin("a b\na c", 1, "a", 1)
        self.thin("-\na", 1, "-", 1)
        # a b and a c go for a, then a and b for the set of no names.
        self.thin("a b\na c\nb", 1, "-", 2)
        self.thin("a b c\na b d\na e", 1, "a", 2)

    def test_core_among_the_sets_that_go(self):
        # The set a goes out with the others, and comes in again as the core.
        self.thin("a\na b\na c", 1, "a", 2)
        self.thin("a\na b\na c", 2, "a", 1)
        self.thin("a b\nb\nb c\nb d", 2, "b\nb d", 1)

    def test_core_that_is_there_already(self):
        self.thin("a z\nb z\nc z\nz", 2, "z", 1)
        self.thin("a z\nb z\nc z\nd z\nz", 3, "z", 1)

    def test_pairs_of_four_names(self):
        self.thin("a b\na c\na d\nb c\nb d\nc d", 2, "a\nb c\nb d\nc d", 1)
        self.thin("a b\na c\na d\nb c\nb d\nc d", 3, "a b\na c\na d\nb c\nb d\nc d", 0)

    def test_first_as_tuples_not_by_cores(self):
        # The flower of z begins with an earlier set than that of b; behind it that of b is none any more.
        self.thin("a z\nb c\nb d\nb z\nc z", 2, "b c\nb d\nz", 1)

    def test_core_makes_another_flower(self):
        # The three with a go for a; a, d and e are then apart, and go for the set of no names.
        self.thin("a b\na c\na f\nd\ne", 2, "-", 2)

    def test_all_apart(self):
        self.tells((((),), 12), thinned, ALL_APART, 0)
        # Two go and the set of no names comes: it goes with each other one again.
        self.tells((((),), 11), thinned, ALL_APART, 1)
        self.tells((((), ("l",)), 5), thinned, ALL_APART, 2)

    def test_steps_by_words(self):
        told = set()
        for turn, sets in enumerate(drawn(23, 250, 0)):
            t = turn % 5
            steps = thinned_by_words(sets, t)
            self.tells((steps[-1], len(steps) - 1), thinned, sets, t)
            told.add((t, min(2, len(steps) - 1)))
        self.assertEqual({(t, went) for t in range(5) for went in range(3)}, told)

    def test_same_rows_hit(self):
        seen = set()
        for turn, sets in enumerate(drawn(24, 120, 1)):
            t = turn % 5
            left = self.asked(thinned, sets, t)[0]
            self.assertTrue(is_collection(left))
            self.assertFalse(t and has_flower(left, t + 1))
            for many in range(t + 1):
                for row in combinations(NAMES, many):
                    self.assertEqual(hits(row, sets), hits(row, left), (sets, t, row))
                    seen.add((t, hits(row, sets), left != sets))
        self.assertLessEqual({(t, truth, True) for t in range(1, 5) for truth in (True, False)}, seen)

    def test_t_of_0_is_all_or_nothing(self):
        for sets in drawn(25, 60, 0):
            self.tells((((),) if sets else (), len([one for one in sets if one])), thinned, sets, 0)


if __name__ == "__main__":
    unittest.main()

import unittest
from itertools import combinations, permutations

from corepetals.errors import NoFlower
from corepetals.sets.flowers import core_of, flower_shown, petals_of
from looker import Picker, core_by_pairs

NAMES = tuple("abcdefghijkl")
ABC = (("a", "b"), ("a", "c"), ("b", "c"))
SOME_SHARED = (("a", "b"), ("a", "c"), ("b", "d"))


class Cores(unittest.TestCase):
    def test_core_of_no_names(self):
        self.assertEqual((), core_of((("a",), ("b",), ("c", "d"))))
        self.assertEqual((), core_of(((), ("a",))))
        self.assertEqual((), core_of(((), ("a",), ("b", "c"))))

    def test_core_of_some_names(self):
        self.assertEqual(("a",), core_of((("a", "b"), ("a", "c"), ("a", "d", "e"))))
        self.assertEqual(("b", "d"), core_of((("a", "b", "d"), ("b", "c", "d"), ("b", "d", "e"))))

    def test_petal_of_no_names(self):
        self.assertEqual(("a",), core_of((("a",), ("a", "b"), ("a", "c"))))
        self.assertEqual(("a", "b"), core_of((("a", "b", "c"), ("a", "b"))))

    def test_two_unlike_sets_are_always_one(self):
        self.assertEqual(("a",), core_of((("a", "b"), ("a", "c"))))
        self.assertEqual((), core_of((("a", "b"), ("c",))))
        self.assertEqual(("b", "c"), core_of((("a", "b", "c"), ("b", "c", "d"))))

    def test_no_flower(self):
        self.assertIsNone(core_of(ABC))
        self.assertIsNone(core_of(SOME_SHARED))
        self.assertIsNone(core_of((("a", "b"), ("a", "c"), ("d",))))
        self.assertIsNone(core_of((("a",), ("b",), ("b", "c"))))
        self.assertIsNone(core_of((("a", "b"), ("a", "b", "c"), ("a", "b", "c", "d"))))
        self.assertIsNone(core_of(((), ("a",), ("a", "b"))))

    def test_fewer_than_two(self):
        self.assertIsNone(core_of(()))
        self.assertIsNone(core_of(((),)))
        self.assertIsNone(core_of((("a",),)))

    def test_any_order_of_the_sets(self):
        some = (("a", "b"), ("b",), ("b", "c", "d"))
        for row in permutations(some):
            self.assertEqual(("b",), core_of(row))
        for row in permutations(SOME_SHARED):
            self.assertIsNone(core_of(row))

    def test_six_sets_of_twenty_four_names(self):
        names = tuple(chr(97 + at) for at in range(24))
        some = tuple(names[at:at + 4] for at in range(0, 24, 4))
        self.assertEqual((), core_of(some))
        self.assertIsNone(core_of(some[:5] + (("a",) + some[5],)))
        some = tuple(("a", "b") + names[at:at + 4] for at in range(2, 22, 4))
        self.assertEqual(("a", "b"), core_of(some))

    def test_against_pairs(self):
        picker = Picker(3)
        told = [0, 0]
        for turn in range(400):
            sets = picker.collection(NAMES[:4 + turn % 9], 2 + turn % 5, 0, 3)
            some = tuple(picker.some_of(sets, len(sets)))
            core = core_by_pairs(some)
            told[core is None] += 1
            self.assertEqual(core, core_of(some), some)
        self.assertGreater(min(told), 50)


class Petals(unittest.TestCase):
    def test_petals(self):
        self.assertEqual((("b",), ("c",)), petals_of((("a", "b"), ("a", "c"))))
        self.assertEqual(((), ("b",), ("c", "d")), petals_of((("a",), ("a", "b"), ("a", "c", "d"))))
        self.assertEqual((("a",), ("b", "c")), petals_of((("a",), ("b", "c"))))
        self.assertEqual(((), ("a",)), petals_of(((), ("a",))))
        self.assertEqual((("a", "e"), ("c",)), petals_of((("a", "b", "d", "e"), ("b", "c", "d"))))

    def test_in_the_order_handed_in(self):
        petals = {("a", "b"): ("a",), ("b",): (), ("b", "c", "d"): ("c", "d")}
        for row in permutations(petals):
            self.assertEqual(tuple(petals[one] for one in row), petals_of(row))

    def test_refused(self):
        for some in (ABC, SOME_SHARED, ((), ("a",), ("a", "b")), (), ((),), (("a",),)):
            with self.assertRaises(NoFlower, msg=some):
                petals_of(some)

    def test_petals_and_core_make_the_sets(self):
        picker = Picker(4)
        for turn in range(200):
            sets = picker.collection(NAMES, 3, 0, 4)
            core = core_by_pairs(sets)
            if core is None:
                self.assertRaises(NoFlower, petals_of, sets)
                continue
            petals = petals_of(sets)
            self.assertIsInstance(petals, tuple)
            self.assertEqual(sets, tuple(tuple(sorted(core + petal)) for petal in petals))
            for one, other in combinations(petals, 2):
                self.assertFalse(set(one) & set(other))


class Looker(unittest.TestCase):
    SETS = ((), ("a",), ("a", "b"), ("a", "c"), ("b", "c"), ("d",))

    def shown(self, truth, many, some):
        self.assertIs(truth, flower_shown(self.SETS, many, some), (many, some))

    def test_flowers(self):
        self.shown(True, 2, ((), ("a",)))
        self.shown(True, 2, (("a", "b"), ("a", "c")))
        self.shown(True, 3, (("a",), ("a", "b"), ("a", "c")))
        self.shown(True, 3, ((), ("a",), ("d",)))
        self.shown(True, 4, ((), ("a",), ("b", "c"), ("d",)))

    def test_another_number(self):
        self.shown(False, 3, ((), ("a",)))
        self.shown(False, 2, (("a",), ("a", "b"), ("a", "c")))
        self.shown(False, 6, ((), ("a",), ("b", "c"), ("d",)))

    def test_another_order(self):
        self.shown(False, 2, (("a",), ()))
        self.shown(False, 2, (("a", "c"), ("a", "b")))
        for some in list(permutations(((), ("a",), ("d",))))[1:]:
            self.shown(False, 3, some)

    def test_a_set_twice(self):
        self.shown(False, 2, (("a",), ("a",)))
        self.shown(False, 3, (("a",), ("a",), ("d",)))
        self.shown(False, 3, (("a", "b"), ("a", "c"), ("a", "c")))
        self.shown(False, 2, ((), ()))

    def test_a_set_that_is_not_there(self):
        self.shown(False, 2, (("a",), ("b",)))
        self.shown(False, 2, (("a",), ("e",)))
        self.shown(False, 3, (("a", "b"), ("a", "c"), ("a", "d")))
        self.shown(False, 2, (("a", "b"), ("c", "a")))
        self.assertIs(False, flower_shown((), 2, (("a",), ("b",))))
        self.assertIs(False, flower_shown((("a",),), 2, ((), ("a",))))

    def test_no_flower(self):
        self.shown(False, 3, ABC)
        self.shown(False, 3, ((), ("a",), ("a", "b")))
        self.shown(False, 6, self.SETS)

    def test_none_and_one(self):
        for many in range(7):
            self.shown(False, many, ())
            self.shown(False, many, (("a",),))
            self.shown(False, many, ((),))

    def test_all_small_tuples(self):
        sets = ((), ("a",), ("a", "b"), ("b",))
        for many in range(4):
            for some in permutations(sets + (("c",),), many):
                truth = (many > 1 and ("c",) not in some and list(some) == sorted(some)
                         and core_by_pairs(some) is not None)
                self.assertIs(truth, flower_shown(sets, many, some), some)


if __name__ == "__main__":
    unittest.main()

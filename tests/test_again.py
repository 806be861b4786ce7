"""The same is told in every run, whatever order Python gives its sets in, and in whatever order it is asked."""

import os
import subprocess
import sys
import unittest
from pathlib import Path

from corepetals.found.exact import count_flowers, greatest_flower, most_apart
from corepetals.found.levels import levels_of, next_level
from corepetals.found.way import flower_by_way
from corepetals.hit.least import is_full, least_rows
from corepetals.hit.thinned import least_row, thinned
from corepetals.kept import KeptSets
from corepetals.near.shares import not_spread, share_taken
from corepetals.parted.across import longest_across
from corepetals.parted.flowers import bound_below, fewest_parts
from corepetals.sets.texts import names_of, read_sets, sets_shown
from corepetals.whole import Desk
from corepetals.words.alike import most_alike
from looker import Picker

TESTS = Path(__file__).resolve().parent
NAMES = ("a", "ab", "b", "ba", "c", "ca", "d", "z")

ASKED = (names_of, sets_shown, greatest_flower, most_apart, least_row, least_rows, is_full, longest_across,
         fewest_parts, bound_below, most_alike)
ASKED_WITH_A_NUMBER = (flower_by_way, count_flowers, thinned, not_spread, next_level)


def collections():
    picker = Picker(111)
    return [picker.collection(NAMES, picker.below(10), picker.below(2), 1 + picker.below(3)) for _ in range(12)]


def told_of(sets):
    told = [deed(sets) for deed in ASKED] + [deed(sets, 3) for deed in ASKED_WITH_A_NUMBER]
    kept = KeptSets(3)
    told.append([kept.put_set(one) for one in sets[::-1]])
    desk = Desk()
    desk.ask("put x " + sets_shown(sets).replace("\n", ";"))
    told.append(desk.ask("parts x") + desk.ask("trace x 3"))
    return told + [share_taken(sets, (2, 3)), levels_of(sets, 2, 9), read_sets(sets_shown(sets))]


def all_told():
    return [repr(told_of(sets)) for sets in collections()]


class Again(unittest.TestCase):
    def test_in_other_runs(self):
        told = set()
        for seed in ("0", "1", "2", "3"):
            places = os.pathsep.join((str(TESTS), str(TESTS.parent)))
            told.add(subprocess.run(
                [sys.executable, "-c", "import test_again\nfor row in test_again.all_told():\n    print(row)"],
                env={**os.environ, "PYTHONHASHSEED": seed, "PYTHONPATH": places, "PYTHONDONTWRITEBYTECODE": "1"},
                check=True, capture_output=True, text=True).stdout)
        self.assertEqual({"".join(f"{row}\n" for row in all_told())}, told)

    def test_in_another_order(self):
        turned = [repr(told_of(sets)) for sets in collections()[::-1]]
        self.assertEqual(all_told(), turned[::-1])


if __name__ == "__main__":
    unittest.main()

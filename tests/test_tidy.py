"""Promises [2], [20]: packing a row and a list beside it."""

import copy
import unittest

from helper import ROWS
from slotbook.tidy import packed

PACKED = [
    ([], [], ([], [])),
    ([None], [7], ([], [])),
    ([None, None, None], [1, 2, 3], ([], [])),
    ([5], ["a"], ([5], ["a"])),
    ([5], [None], ([5], [None])),
    ([0, "", ()], [0, "", ()], ([0, "", ()], [0, "", ()])),
    ([None, 5, None], [1, 2, 3], ([5], [2])),
    ([5, None, 6], [None, 2, None], ([5, 6], [None, None])),
    ([None, "b", None, None, (1, 2), 0], [1, None, 3, 4, (), 6], (["b", (1, 2), 0], [None, (), 6])),
    ([3, 1, 2], [9, 9, 9], ([3, 1, 2], [9, 9, 9])),
    (["a", None], [[1], [2]], (["a"], [[1]])),
]


class TestPacked(unittest.TestCase):
    def test_told_pairs_of_lists(self):
        for row, beside, asked in PACKED:
            self.assertEqual(packed(row, beside), asked, (row, beside))

    def test_each_row(self):
        for row in ROWS:
            for beside in (list(range(len(row))), [None] * len(row), [(key, key) for key in row]):
                both = [(row[place], beside[place]) for place in range(len(row)) if row[place] is not None]
                self.assertEqual(packed(row, beside), ([key for key, thing in both], [thing for key, thing in both]))

    def test_long_rows(self):
        row = [None if number % 3 == 1 else number for number in range(1000)]
        kept = [number for number in range(1000) if number % 3 != 1]
        self.assertEqual(packed(row, [-number for number in range(1000)]), (kept, [-number for number in kept]))

    def test_kinds(self):
        for row, beside, asked in PACKED:
            told = packed(row, beside)
            self.assertIs(told.__class__, tuple)
            self.assertEqual([part.__class__ for part in told], [list, list])

    def test_what_is_handed_in_stays(self):
        for row, beside, asked in PACKED:
            kept = copy.deepcopy((row, beside))
            packed(row, beside)
            self.assertEqual((row, beside), kept)

    def test_the_lists_are_the_askers_own(self):
        for row, beside in (([1, 2], ["a", "b"]), ([1, None], ["a", "b"]), ([], []), ([None], [0])):
            kept = copy.deepcopy((row, beside))
            told = packed(row, beside)
            for part in told:
                part.append("more")
                part[0] = "other"
            self.assertEqual((row, beside), kept)
            told, again = packed(row, beside), packed(row, beside)
            row.append(9)
            beside.append(9)
            self.assertEqual(told, again)
            self.assertTrue(told[0] is not told[1])

    def test_a_row_beside_itself(self):
        row = [4, None, 5]
        told = packed(row, row)
        self.assertEqual(told, ([4, 5], [4, 5]))
        told[0].append(6)
        self.assertEqual((told[1], row), ([4, 5], [4, None, 5]))

    def test_arguments_by_their_names(self):
        self.assertEqual(packed(row=[None, 1], beside=[2, 3]), ([1], [3]))


if __name__ == "__main__":
    unittest.main()

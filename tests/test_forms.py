"""Promises [2], [5], [14]: whether cells and a row are in form."""

import copy
import itertools
import unittest

from helper import EMPTY, GONE, ROOMS, ROWS, SIZES, all_states, probes_by_steps
from slotbook.forms import in_form
from slotbook.slots import cells_of
from slotbook.stamps import TURN, stamp

FREE = [-1, -1, -1, -1]

IN_FORM = [
    ([-1] * 8, []),
    ([-1] * 8, [None]),
    ([-1] * 8, [None] * 5),
    ([0] + [-1] * 7, [0]),
    ([-1] * 7 + [0], [7]),
    ([0, 1, -1, 2] + FREE, [0, 8, 64]),
    ([0, 1, 2, -1] + FREE, [64, 8, 0]),
    # GONE among the probes, as many as there are None.
    ([-2, 1, -1, 2] + FREE, [None, 8, 64]),
    ([-2, -2, -1, 2] + FREE, [None, None, 64]),
    ([-2, 0, -1, -1] + FREE, [0, None]),
    ([-2, 1, 0, -1] + FREE, [0, 8, None]),
    # GONE that stands among no key's probes, and fewer GONE than None.
    ([0, -1, -1, -1, -1, -2, -1, -1], [0, None]),
    ([0, -1, -1, -1, -1, -2, -1, -1], [None, None, None, 0][::-1]),
    ([1, -1, -1, -1, -1, -1, -1, -1], [None, 8]),
    ([-2] * 5 + [-1] * 3, [None] * 5),
    # A key that stands behind one that came later, or behind another one than it came behind.
    ([1, 0, -1, -1] + FREE, [0, 8]),
    ([2, 0, 1, -1] + FREE, [0, TURN, 2 * TURN]),
    ([0, 1, 2, 3, 4, -1, -1, -1], [0, 1, 2, 3, 4]),
    ([1, -1, -1, -1, -1, -1, -1, 0], ["", 7]),
    ([0, -1, -1, -1, -1, -1, -1, 1], ["", 7]),
]

# In each of these just one part of the point is broken, so that no other part can stand in for it.
WRONG_SIZE = [
    ([], []), ([-1], []), ([-1] * 4, []), ([-1] * 7, []), ([-1] * 9, []), ([-1] * 12, []), ([-1] * 15, []),
    ([-1] * 17, []), ([-1] * 4095, []), ([-1] * 4097, []), ([-1] * 8192, []), ([0, -1, -1, -1], [0]),
    ([0] + [-1] * 8, [0]), ([0] + [-1] * 8191, [0]), ([-1] * 4, [None, None]), ([], [None]),
]
WRONG_PLACES = [
    ([-1] * 8, [None] * 6), ([-2] * 6 + [-1] * 2, [None] * 6), ([0, 1, 2, 3, 4, 5, -1, -1], [0, 1, 2, 3, 4, 5]),
    ([5] + [-1] * 7, [None] * 5 + [0]), ([0] + [-1] * 7, [0] + [None] * 5), ([-1] * 8, [None] * 100),
    ([-1] * 16, [None] * 11), ([-1] * 4096, [None] * 2731),
]
WRONG_ALIKE = [
    ([0, 1, -1, -1] + FREE, [0, 0]), ([1, 0, -1, -1] + FREE, [0, 0]), ([0, 1, 2, -1] + FREE, [8, 0, 8]),
    ([1, -1, -1, -1, -1, -1, -1, 0], ["", ""]), ([-1, -1, -1, 0, 1, -1, -1, -1], [(), ()]),
    ([-2, 1, 2, -1] + FREE, [None, 0, 0]),
]
WRONG_NUMBER = [
    ([-3] + [-1] * 7, []), ([0] + [-1] * 7, []), ([7] + [-1] * 7, []), ([8] + [-1] * 7, []),
    ([0] + [-1] * 7, [None]), ([10 ** 30] + [-1] * 7, []), ([-10 ** 30] + [-1] * 7, []),
    ([0, 1, -1, -1] + FREE, [0]), ([0, 1, -1, -1] + FREE, [0, None]), ([0, 1, 2, -3] + FREE, [0, 1, 2]),
    ([0, 1, 2, -4] + FREE, [0, 1, 2]), ([0, 1, 2, 3] + FREE, [0, 1, 2]), ([0, 1, 2, -1, -1, -1, -1, -3], [0, 1, 2]),
    ([0, 1, 2, -1, -1, -1, -1, 99], [0, 1, 2]), ([0, 1, -1, -1, -1, -1, -1, 2], [0, 1, None]),
    ([1, -1, -1, -1, -1, -1, -1, 0], [None, 0]),
]
WRONG_TIMES = [
    ([-1] * 8, [0]), ([-1] * 8, [None, 0]), ([0, -1, -1, -1] + FREE, [0, 8]), ([0, 0, -1, -1] + FREE, [0]),
    ([0, -1, -1, -1, -1, -1, -1, 0], [0]), ([0, 1, 0, -1] + FREE, [0, 8]), ([0] * 7 + [-1], [0]), ([0] * 8, [0]),
    ([1, 1, -1, -1] + FREE, [None, 0]), ([1, 1, 0, -1] + FREE, [0, 8]), ([-2] + [-1] * 7, [0, None]),
]
WRONG_GONE = [
    ([-2] + [-1] * 7, []), ([0, -2, -1, -1] + FREE, [0]), ([-2, 0, -1, -1] + FREE, [0]),
    ([-2, -2, -1, -1] + FREE, [None]), ([0, -2, -2, -1] + FREE, [0, None]),
    ([0, -1, -2, -1, -1, -2, -1, -1], [0, None]),
    ([-2] * 6 + [-1] * 2, [None] * 5), ([-2] * 8, [None] * 5), ([-2] * 7 + [-1], []),
]
WRONG_WAY = [
    ([-1, 0, -1, -1] + FREE, [0]), ([-1] * 7 + [0], [0]), ([0] + [-1] * 7, [7]), ([0] + [-1] * 7, [1]),
    ([0, -1, 1, -1] + FREE, [0, 8]), ([-1, 0, 1, -1] + FREE, [0, 1]), ([0, 1, 2, -1] + FREE, [0, 8, 64]),
    ([-2, -1, 0, -1] + FREE, [0, None]), ([-1, -2, 0, -1] + FREE, [0, None]), ([0, 1, -1, 2] + FREE, [0, 8, 16]),
    ([-1, 0, -1, -1, -1, -1, -1, 1], ["", 7]), ([-1, -1, 0, -1] + FREE, [()]),
    ([0, 1, 2, 3, -1, -1, -1, 4], [0, 1, 2, 3, 4]),
]
WRONG = {
    "size": WRONG_SIZE, "places": WRONG_PLACES, "alike": WRONG_ALIKE, "number": WRONG_NUMBER, "times": WRONG_TIMES,
    "gone": WRONG_GONE, "way": WRONG_WAY,
}


def way_is_free(cells, place, key):
    """Whether no EMPTY stands among a key's probes ahead of the first cell with its place."""
    for slot in probes_by_steps(stamp(key), len(cells)):
        if cells[slot] == place:
            return True
        if cells[slot] == EMPTY:
            return False
    return False


def broken_parts(cells, row):
    """The parts of the point that are broken, each looked at by itself."""
    with_key = [place for place in range(len(row)) if row[place] is not None]
    keys = [row[place] for place in with_key]
    size = len(cells)
    found = []
    if size not in SIZES:
        found.append("size")
    if size in SIZES and 3 * len(row) > 2 * size:
        found.append("places")
    if any(one == other for one, other in itertools.combinations(keys, 2)):
        found.append("alike")
    if any(cell not in [EMPTY, GONE] + with_key for cell in cells):
        found.append("number")
    if any(cells.count(place) != 1 for place in with_key):
        found.append("times")
    if cells.count(GONE) > row.count(None):
        found.append("gone")
    held = [place for place in with_key if place in cells]
    if size in SIZES and not all(way_is_free(cells, place, row[place]) for place in held):
        found.append("way")
    return found


class TestInForm(unittest.TestCase):
    def test_told_forms(self):
        for cells, row in IN_FORM:
            self.assertEqual(broken_parts(cells, row), [], (cells, row))
            self.assertIs(in_form(cells, row), True, (cells, row))

    def test_cells_of_each_row_in_each_size(self):
        for row in ROWS:
            for size in SIZES:
                self.assertIs(in_form(cells_of(row, size), row), True, (row, size))

    def test_as_many_places_as_the_room(self):
        for size, many in zip(SIZES, ROOMS):
            row = [("x", number) for number in range(many)]
            self.assertIs(in_form(cells_of(row, size), row), True, size)
            self.assertIs(in_form([EMPTY] * size, [None] * many), True, size)
            self.assertIs(in_form([GONE] * many + [EMPTY] * (size - many), [None] * many), True, size)
            self.assertIs(in_form([EMPTY] * size, [None] * (many + 1)), False, size)

    def test_states_behind_comings_and_goings(self):
        for cells, row in all_states():
            self.assertIs(in_form(cells, row), True, (cells, row))

    def test_each_cell_of_a_state_changed(self):
        for cells, row in all_states()[:60]:
            for slot in range(len(cells)):
                for cell in (-3, EMPTY, GONE, 0, 1, len(row) - 1, len(row)):
                    changed = cells[:slot] + [cell] + cells[slot + 1:]
                    asked = broken_parts(changed, row) == []
                    self.assertIs(in_form(changed, row), asked, (changed, row))

    def test_all_small_cells(self):
        rows = [[], [None], [0], [0, 8], [8, 0], [0, 0], [None, 0], [0, None], [64, 1], [1, 2, None], [0, 8, 16]]
        seen = 0
        for some in itertools.product(range(-3, 4), repeat=4):
            cells = list(some) + FREE
            for row in rows:
                asked = broken_parts(cells, row) == []
                seen += asked
                self.assertIs(in_form(cells, row), asked, (cells, row))
        self.assertGreater(seen, 30)

    def test_each_part_broken_by_itself(self):
        for part, things in WRONG.items():
            for cells, row in things:
                self.assertEqual(broken_parts(cells, row), [part], (cells, row))
                self.assertIs(in_form(cells, row), False, (part, cells, row))

    def test_any_whole_numbers_and_any_keys(self):
        numbers = [
            [], [5], [-1], [-2], [10 ** 80], [-10 ** 80] * 8, [2 ** 64] * 16, list(range(8)), list(range(-8, 0)),
            [3] * 8, [-2] * 8, [-3] * 8, [-5] * 32, list(range(4096)), [0] * 5000,
        ]
        rows = [[], [None], [0, 0], ["a"] * 9, [(1, ("b",))] * 3, [None] * 3000, list(range(3000)), [0, "", (), None]]
        for cells in numbers:
            for row in rows:
                self.assertIs(in_form(cells, row), False, (cells[:9], row[:9]))

    def test_nothing_handed_in_is_changed(self):
        for cells, row in IN_FORM + [pair for things in WRONG.values() for pair in things]:
            kept = copy.deepcopy((cells, row))
            first = in_form(cells, row)
            self.assertEqual((cells, row), kept)
            self.assertIs(in_form(cells, row), first)

    def test_arguments_by_their_names(self):
        self.assertIs(in_form(cells=[-1] * 8, row=[]), True)


if __name__ == "__main__":
    unittest.main()

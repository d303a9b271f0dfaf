"""Promises [2], [3], [5], [10], [11], [12], [13]: cells of a row, papers and places."""

import copy
import unittest

from helper import LIKE_STAMPS, NO_SIZES, ROOMS, ROWS, SIZES, all_states, cells_by_point, paper_by_point
from slotbook.errors import BookError, Full, NoSize
from slotbook.slots import EMPTY, GONE, cells_of, paper, place_of
from slotbook.stamps import TURN, stamp

CELLS = [
    ([], 8, [-1] * 8),
    ([None], 8, [-1] * 8),
    ([None] * 5, 8, [-1] * 8),
    ([0], 8, [0, -1, -1, -1, -1, -1, -1, -1]),
    ([7], 8, [-1, -1, -1, -1, -1, -1, -1, 0]),
    ([None, 7], 8, [-1, -1, -1, -1, -1, -1, -1, 1]),
    ([0, 8, 64], 8, [0, 1, -1, 2, -1, -1, -1, -1]),
    ([64, 8, 0], 8, [0, 1, 2, -1, -1, -1, -1, -1]),
    ([7, 15, None, 23, 31], 8, [1, 3, 4, -1, -1, -1, -1, 0]),
    ([64, 128, 192, None, 64 + TURN], 8, [0, -1, -1, 4, -1, 1, -1, 2]),
    (["", 7, TURN + 7], 8, [1, 2, -1, -1, -1, -1, -1, 0]),
    ([(), "", "a", -1], 8, [-1, -1, 2, 0, -1, -1, 3, 1]),
    ([-1, TURN - 1], 16, [-1] * 13 + [1, 0, -1]),
    ([0, 16, 64], 16, [0, 1, -1, 2] + [-1] * 12),
    ([4095, -TURN - 1], 4096, [-1] * 4094 + [1, 0]),
]

# Cells, a row, a key, and its paper and place by them.
PAPERS = [
    ([-1] * 8, [], 0, [(0, -1)], None),
    ([-1] * 8, [], 7, [(7, -1)], None),
    ([-1] * 8, [None], 0, [(0, -1)], None),
    ([0, 1, -1, 2, -1, -1, -1, -1], [0, 8, 64], 0, [(0, 0)], 0),
    ([0, 1, -1, 2, -1, -1, -1, -1], [0, 8, 64], 8, [(0, 0), (1, 1)], 1),
    ([0, 1, -1, 2, -1, -1, -1, -1], [0, 8, 64], 64, [(0, 0), (3, 2)], 2),
    ([0, 1, -1, 2, -1, -1, -1, -1], [0, 8, 64], 16, [(0, 0), (1, 1), (2, -1)], None),
    ([0, 1, -1, 2, -1, -1, -1, -1], [0, 8, 64], 72, [(0, 0), (3, 2), (6, -1)], None),
    ([0, 1, -1, 2, -1, -1, -1, -1], [0, 8, 64], "x", [(1, 1), (4, -1)], None),
    ([-2, 1, -1, 2, -1, -1, -1, -1], [None, 8, 64], 0, [(0, -2), (1, 1), (2, -1)], None),
    ([-2, 1, -1, 2, -1, -1, -1, -1], [None, 8, 64], 8, [(0, -2), (1, 1)], 1),
    ([-2, 1, -1, 2, -1, -1, -1, -1], [None, 8, 64], 64, [(0, -2), (3, 2)], 2),
    ([-2, -2, -1, 2, -1, -1, -1, -1], [None, None, 64], 0, [(0, -2), (1, -2), (2, -1)], None),
    ([-2, -2, -2, -1, 0, 1, -2, -2], [4, 12], 0, [(0, -2), (1, -2), (2, -2), (3, -1)], None),
    ([-2, -2, -2, -1, 0, 1, -2, -2], [4, 12], 12, [(4, 0), (5, 1)], 1),
    ([-2, -2, -2, -1, 0, 1, -2, -2], [4, 12], 20,
     [(4, 0), (5, 1), (6, -2), (7, -2), (0, -2), (1, -2), (2, -2), (3, -1)], None),
    ([0, 1, 2, 3, 4, 5, 6, -1], [0, 1, 2, 3, 4, 5, 6], 8,
     [(0, 0), (1, 1), (2, 2), (3, 3), (4, 4), (5, 5), (6, 6), (7, -1)], None),
    ([0, 1, 2, 3, 4, 5, 6, -1], [0, 1, 2, 3, 4, 5, 6], 6, [(6, 6)], 6),
    ([0, -1, -1, -1, -1, -1, -1, -1], [0], TURN, [(0, 0), (1, -1)], None),
    ([-1, -1, -1, -1, -1, -1, -1, 0], [7], "", [(7, 0), (0, -1)], None),
    ([-1, -1, -1, -1, -1, -1, -1, 0], [""], 7, [(7, 0), (0, -1)], None),
    ([1, -1, -1, -1, -1, -1, -1, 0], ["", 7], 7, [(7, 0), (0, 1)], 1),
    ([-1, -1, -1, 0, -1, -1, -1, -1], [()], 11, [(3, 0), (4, -1)], None),
    ([-1, -1, -1, 0, -1, -1, -1, -1], [()], (), [(3, 0)], 0),
]

ABSENT = [0, 1, 5, 8, 64, 99, TURN, -1, 10 ** 59, "", "a", "zz", (), (0,), ((0,),), (1, "a", (2, ()))]


def asked_keys(row):
    return [key for key in row if key is not None] + ABSENT


class TestConstants(unittest.TestCase):
    def test_empty_and_gone(self):
        self.assertEqual((EMPTY, GONE), (-1, -2))
        self.assertEqual((EMPTY.__class__, GONE.__class__), (int, int))


class TestCellsOf(unittest.TestCase):
    def test_told_cells(self):
        for row, size, asked in CELLS:
            self.assertEqual(cells_of(row, size), asked, (row, size))

    def test_a_row_without_keys_in_each_size(self):
        for size, many in zip(SIZES, ROOMS):
            self.assertEqual(cells_of([], size), [EMPTY] * size)
            self.assertEqual(cells_of([None], size), [EMPTY] * size)
            self.assertEqual(cells_of([None] * many, size), [EMPTY] * size)

    def test_each_row_in_each_size(self):
        for row in ROWS:
            for size in SIZES:
                self.assertEqual(cells_of(row, size), cells_by_point(row, size), (row, size))

    def test_a_row_with_as_many_places_as_the_room(self):
        for size, many in zip(SIZES[:6], ROOMS):
            for row in (
                list(range(many)), [size * number for number in range(many)], [TURN * number for number in range(many)],
                [None if number % 4 == 1 else (number, "a") for number in range(many)], [None] * (many - 1) + ["z"],
                [-number for number in range(many)], [("x" * (number % 60), number) for number in range(many)],
            ):
                self.assertEqual(cells_of(row, size), cells_by_point(row, size), (row, size))

    def test_just_full_in_the_greatest_sizes(self):
        for size, many in zip(SIZES, ROOMS):
            self.assertEqual(cells_of(list(range(many)), size).count(EMPTY), size - many)

    def test_full_with_more_places_than_the_room(self):
        for size, many in zip(SIZES, ROOMS):
            for row in (
                list(range(many + 1)), [None] * (many + 1), [0] + [None] * many, [None] * many + [0],
                list(range(many + 2)), list(range(2 * size)),
            ):
                kept = list(row)
                with self.assertRaises(Full, msg=(size, len(row))) as refused:
                    cells_of(row, size)
                self.assertIs(refused.exception.__class__, Full)
                self.assertEqual(row, kept)

    def test_no_size(self):
        for number, thing in enumerate(NO_SIZES):
            # The refusal comes ahead of Full, so a row with very many places is refused no otherwise.
            for row in ([], [0], [None, "a"], [None] * 9000):
                kept = list(row)
                with self.assertRaises(NoSize, msg=f"thing {number}") as refused:
                    cells_of(row, thing)
                self.assertIs(refused.exception.__class__, NoSize)
                self.assertEqual(row, kept)

    def test_both_are_refusals(self):
        with self.assertRaises(BookError):
            cells_of([], 7)
        with self.assertRaises(BookError):
            cells_of([None] * 6, 8)
        self.assertFalse(issubclass(Full, NoSize) or issubclass(NoSize, Full))

    def test_the_row_is_left_as_it_is(self):
        for row in ROWS:
            kept = copy.deepcopy(row)
            cells_of(row, 8)
            self.assertEqual(row, kept)

    def test_the_list_is_the_askers_own(self):
        for row, size, asked in CELLS:
            told = cells_of(row, size)
            told[0] = 77
            told.append(5)
            self.assertEqual(cells_of(row, size), asked)
        row = [0, 8, 64]
        told = cells_of(row, 8)
        row.append(1)
        row[0] = None
        self.assertEqual(told, [0, 1, -1, 2, -1, -1, -1, -1])

    def test_each_is_a_whole_number(self):
        for row in ROWS:
            told = cells_of(row, 8)
            self.assertIs(told.__class__, list)
            self.assertEqual({cell.__class__ for cell in told}, {int})

    def test_arguments_by_their_names(self):
        self.assertEqual(cells_of(row=[0], size=8), [0] + [-1] * 7)


class TestPaper(unittest.TestCase):
    def test_told_papers(self):
        for cells, row, key, asked, place in PAPERS:
            self.assertEqual(paper(cells, row, key), asked, (cells, row, key))

    def test_by_the_cells_of_each_row(self):
        for row in ROWS:
            for size in (8, 16, 64):
                cells = cells_of(row, size)
                for key in asked_keys(row):
                    self.assertEqual(paper(cells, row, key), paper_by_point(cells, row, key), (row, size, key))

    def test_by_cells_with_gone(self):
        for cells, row in all_states():
            for key in asked_keys(row):
                self.assertEqual(paper(cells, row, key), paper_by_point(cells, row, key), (cells, row, key))

    def test_never_longer_than_one_more_than_the_cells_that_are_not_empty(self):
        for cells, row in all_states():
            for key in asked_keys(row):
                self.assertLessEqual(len(paper(cells, row, key)), 1 + len(cells) - cells.count(EMPTY))

    def test_as_long_as_there_are_cells_with_one_empty_left(self):
        for last in range(8):
            cells = [GONE] * 8
            cells[last] = EMPTY
            for key in range(8):
                told = paper(cells, [None] * 7, key)
                self.assertEqual(told[-1], (last, EMPTY))
                self.assertEqual(len(told), (last - key) % 8 + 1)

    def test_in_the_greatest_size(self):
        row = [TURN * number for number in range(40)]
        cells = cells_of(row, 4096)
        self.assertEqual(paper(cells, row, 39 * TURN), [(slot, slot) for slot in range(40)])
        self.assertEqual(paper(cells, row, 40 * TURN), [(slot, slot) for slot in range(40)] + [(40, EMPTY)])

    def test_kinds(self):
        for cells, row, key, asked, place in PAPERS:
            told = paper(cells, row, key)
            self.assertIs(told.__class__, list)
            self.assertEqual({(pair.__class__, len(pair)) for pair in told}, {(tuple, 2)})
            self.assertEqual({part.__class__ for pair in told for part in pair}, {int})

    def test_nothing_handed_in_is_changed_and_the_list_is_the_askers_own(self):
        for cells, row, key, asked, place in PAPERS:
            kept = copy.deepcopy((cells, row))
            told = paper(cells, row, key)
            told.reverse()
            told[0] = None
            told.append((0, 0))
            self.assertEqual((cells, row), kept)
            self.assertEqual(paper(cells, row, key), asked)

    def test_what_is_done_later_to_the_cells_changes_no_paper(self):
        cells, row = [0, 1, -1, 2, -1, -1, -1, -1], [0, 8, 64]
        told = paper(cells, row, 64)
        cells[0] = GONE
        cells[3] = GONE
        row[2] = None
        self.assertEqual(told, [(0, 0), (3, 2)])

    def test_arguments_by_their_names(self):
        self.assertEqual(paper(cells=[0] + [-1] * 7, row=[0], key=8), [(0, 0), (1, -1)])


class TestPlaceOf(unittest.TestCase):
    def test_told_places(self):
        for cells, row, key, asked, place in PAPERS:
            self.assertEqual(place_of(cells, row, key), place, (cells, row, key))

    def test_each_key_of_each_row(self):
        for row in ROWS:
            for size in (8, 16, 64):
                cells = cells_of(row, size)
                for key in asked_keys(row):
                    asked = row.index(key) if key in row else None
                    self.assertEqual(place_of(cells, row, key), asked, (row, size, key))

    def test_by_cells_with_gone(self):
        for cells, row in all_states():
            for key in asked_keys(row):
                asked = row.index(key) if key in row else None
                told = place_of(cells, row, key)
                self.assertEqual(told, asked, (cells, row, key))
                self.assertIs(told.__class__, asked.__class__)

    def test_keys_with_like_stamps_are_told_apart(self):
        for keys in LIKE_STAMPS:
            self.assertEqual(len({stamp(key) for key in keys}), 1)
            for many in range(len(keys)):
                row = keys[:many]
                cells = cells_of(row, 8)
                self.assertEqual([place_of(cells, row, key) for key in keys],
                                 list(range(many)) + [None] * (len(keys) - many))

    def test_an_own_place_behind_an_empty_cell_is_not_come_to(self):
        self.assertIs(place_of([-1, 0, -1, -1, -1, -1, -1, -1], [0], 0), None)

    def test_a_key_alike_part_by_part(self):
        row = [("a", (1, "b"))]
        like = tuple(["a", tuple([1, "b"])])
        self.assertEqual(place_of(cells_of(row, 8), row, like), 0)
        self.assertIs(place_of(cells_of(row, 8), row, ("a", ("1", "b"))), None)

    def test_nothing_handed_in_is_changed(self):
        for cells, row, key, asked, place in PAPERS:
            kept = copy.deepcopy((cells, row))
            place_of(cells, row, key)
            self.assertEqual((cells, row), kept)

    def test_arguments_by_their_names(self):
        self.assertEqual(place_of(cells=[0] + [-1] * 7, row=[0], key=0), 0)


if __name__ == "__main__":
    unittest.main()

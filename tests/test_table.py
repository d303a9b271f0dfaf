"""Promises [2], [3], [5], [14], [19], and [15] to [18] for tables."""

import unittest

from helper import (
    EMPTY, GONE, GOOD, LIKE_STAMPS, VALUES, BookCase, PlainBook, all_wrong, answer, cells_by_point, deeds, state,
)
from slotbook.errors import Lacking, NoKey
from slotbook.forms import in_form
from slotbook.shelf import Shelf
from slotbook.stamps import TURN
from slotbook.table import Table

# How many keys came one by one, when a table is tidied ahead of the next one; its size then, and all keys moved.
GROWTH = [
    (5, 16, 5), (10, 32, 15), (21, 64, 36), (42, 128, 78), (85, 256, 163), (170, 512, 333), (341, 1024, 674),
    (682, 2048, 1356),
]


def table_of(keys):
    """A table to which these keys came, each with a text that tells its number of coming."""
    table = Table()
    for number, key in enumerate(keys, start=1):
        table.put(key, f"v{number}")
    return table


def size_of(table):
    return len(table.form()[0])


def entries_of(table):
    """All (number of coming, key, value), asked for one by one."""
    found = []
    entry = table.after(0)
    while entry is not None:
        found.append(entry)
        entry = table.after(entry[0])
    return found


class TestMaking(BookCase):
    def test_it_begins_with_the_size_eight(self):
        table = Table()
        self.assertEqual(state(table), (([EMPTY] * 8, []), (0, 0, 0, 0, 0), [], 0))

    def test_it_is_a_shelf(self):
        self.assertEqual(Table.__bases__, (Shelf,))
        self.assertIsInstance(Table(), Shelf)

    def test_two_tables_share_nothing(self):
        one, other = Table(), Table()
        for key in range(9):
            one.put(key, 1)
        self.assertEqual(state(other), state(Table()))


class TestTidying(BookCase):
    def test_first_ahead_of_the_sixth_key(self):
        table = table_of([0, 8, 64, 7, 15])
        self.assertEqual(table.form(), ([0, 1, 4, 2, -1, -1, -1, 3], [0, 8, 64, 7, 15]))
        self.assertEqual(table.counts(), (5, 5, 0, 0, 0))
        self.assertIs(table.put(16, "v6"), True)
        self.assertEqual(table.form(), ([0, 5, -1, 2, -1, -1, -1, 3, 1] + [-1] * 6 + [4], [0, 8, 64, 7, 15, 16]))
        self.assertEqual(table.counts(), (6, 6, 0, 1, 5))
        self.assertEqual(entries_of(table), [(1, 0, "v1"), (2, 8, "v2"), (3, 64, "v3"), (4, 7, "v4"), (5, 15, "v5"),
                                             (6, 16, "v6")])

    def test_tidied_just_where_there_is_no_room(self):
        table = Table()
        growth = {many: (size, moved) for many, size, moved in GROWTH}
        size, tidyings, moved = 8, 0, 0
        for key in range(700):
            if key in growth:
                size, moved = growth[key]
                tidyings += 1
            self.assertIs(table.put(key, -key), True)
            self.assertEqual(table.counts(), (key + 1, key + 1, 0, tidyings, moved))
            self.assertEqual(size_of(table), size)
        self.assertEqual(table.pairs(), [(key, -key) for key in range(700)])
        self.assertEqual(table.form()[0], cells_by_point(list(range(700)), 2048))

    def test_the_new_row_has_the_keys_that_are_there_in_their_order(self):
        table = table_of([0, 8, 64, 7, 15])
        table.take(8)
        table.take(7)
        self.assertEqual(table.form(), ([0, -2, 4, 2, -1, -1, -1, -2], [0, None, 64, None, 15]))
        table.put(64, None)
        table.put("a", "v6")
        self.assertEqual(table.form(), ([0, -1, -1, 1] + [-1] * 6 + [3] + [-1] * 4 + [2], [0, 64, 15, "a"]))
        self.assertEqual(entries_of(table), [(1, 0, "v1"), (3, 64, None), (5, 15, "v5"), (6, "a", "v6")])
        self.assertEqual(table.counts(), (4, 6, 2, 1, 3))

    def test_the_new_size_for_so_many_keys_as_are_there(self):
        for left, size in ((0, 8), (1, 8), (2, 8), (3, 16), (4, 16), (5, 16)):
            table = table_of([0, 1, 2, 3, 4])
            for key in range(5 - left):
                table.take(key)
            self.assertEqual(size_of(table), 8)
            table.put(9, "v6")
            row = list(range(5 - left, 5)) + [9]
            self.assertEqual(table.form(), (cells_by_point(row, size), row))
            self.assertEqual(table.counts(), (left + 1, 6, 5 - left, 1, left))
            self.assertEqual(table.ahead(99), (6, 9, "v6"))

    def test_the_key_that_comes_is_not_counted(self):
        table = table_of([0, 1, 2, 3, 4])
        for key in (0, 1, 2):
            table.take(key)
        table.put(0, "again")
        self.assertEqual(size_of(table), 8)
        self.assertEqual((table.form()[1], table.counts()), ([3, 4, 0], (3, 6, 3, 1, 2)))

    def test_smaller_again_where_few_keys_are_there(self):
        table = table_of(range(22))
        self.assertEqual(size_of(table), 64)
        for key in range(20):
            table.take(key)
        self.assertEqual((size_of(table), len(table.form()[1])), (64, 22))
        for key in range(20):
            table.put("x", key)
            table.take("x")
        self.assertEqual((size_of(table), len(table.form()[1])), (64, 42))
        self.assertEqual(table.counts(), (2, 42, 40, 3, 36))
        table.put("y", 1)
        self.assertEqual(table.form(), (cells_by_point([20, 21, "y"], 8), [20, 21, "y"]))
        self.assertEqual(table.counts(), (3, 43, 40, 4, 38))
        self.assertEqual(entries_of(table), [(21, 20, "v21"), (22, 21, "v22"), (43, "y", 1)])

    def test_a_tidying_where_no_key_is_there(self):
        table = table_of(range(5))
        for key in range(5):
            table.take(key)
        table.put(0, "again")
        self.assertEqual(table.form(), ([0] + [EMPTY] * 7, [0]))
        self.assertEqual((table.counts(), table.after(0)), ((1, 6, 5, 1, 0), (6, 0, "again")))

    def test_one_key_that_comes_and_goes(self):
        table = Table()
        for turn in range(50):
            table.put("a", turn)
            self.assertEqual(table.take("a"), turn)
            self.assertEqual(table.counts(), (0, turn + 1, turn + 1, turn // 5, 0))
            self.assertEqual((size_of(table), len(table.form()[1])), (8, turn % 5 + 1))

    def test_gone_cells_are_empty_behind_a_tidying(self):
        table = table_of([0, 8, 16, 24, 32])
        for key in (0, 8, 16):
            table.take(key)
        self.assertEqual(table.form()[0].count(GONE), 3)
        table.put(40, 1)
        self.assertEqual(table.form(), ([0, 1, 2, -1, -1, -1, -1, -1], [24, 32, 40]))

    def test_no_put_of_a_key_that_is_there_tidies(self):
        table = table_of(range(5))
        form = table.form()
        for key in range(5):
            self.assertIs(table.put(key, "new"), False)
            self.assertEqual((table.form(), table.counts()), (form, (5, 5, 0, 0, 0)))

    def test_no_taking_out_tidies(self):
        table = table_of(range(5))
        table.take(1)
        self.assertEqual(table.take_last(), (4, "v5"))
        self.assertEqual(table.form(), ([0, -2, 2, 3, -2, -1, -1, -1], [0, None, 2, 3, None]))
        self.assertEqual(table.counts(), (3, 5, 2, 0, 0))
        table.take(0)
        table.take(2)
        table.take(3)
        self.assertEqual((table.form(), table.counts()), (([-2] * 5 + [-1] * 3, [None] * 5), (0, 5, 5, 0, 0)))

    def test_no_question_and_no_refused_deed_tidies(self):
        table = table_of(range(5))
        before = state(table)
        for key in (5, 0, "a"):
            table.has(key)
            table.told(key)
            table.paper(key)
        table.after(2)
        table.ahead(2)
        for wrong in (None, True, [5], 1.5, (None,)):
            self.assert_refused(NoKey, table.put, wrong, 1)
        for deed in (table.at, table.take):
            self.assert_refused(Lacking, deed, 5)
        self.assertEqual(state(table), before)

    def test_never_full(self):
        table = Table()
        for number in range(900):
            self.assertIs(table.put((number, "x"), None), True)
            if number % 7 == 0:
                table.take((number, "x"))
        self.assertEqual(table.many(), 900 - 129)

    def test_keys_with_like_stamps(self):
        table = table_of([TURN * number for number in range(60)])
        for number in range(0, 60, 3):
            self.assertEqual(table.take(TURN * number), f"v{number + 1}")
        for number in range(60):
            self.assertIs(table.has(TURN * number), number % 3 != 0)
        for keys in LIKE_STAMPS:
            table = table_of(keys + ["x", "y", "z"])
            self.assertEqual([table.at(key) for key in keys], [f"v{number + 1}" for number in range(len(keys))])


class TestEmptying(BookCase):
    def test_the_size_is_eight_again_and_that_is_no_tidying(self):
        for many, tidyings, moved in ((0, 0, 0), (3, 0, 0), (5, 0, 0), (6, 1, 5), (11, 2, 15), (100, 5, 163)):
            table = table_of(range(many))
            self.assertIs(table.emptied(), None)
            self.assertEqual(state(table), (([EMPTY] * 8, []), (0, many, many, tidyings, moved), [], 0))
            table.put("a", 1)
            self.assertEqual(table.after(0), (many + 1, "a", 1))
            self.assertEqual(table.counts(), (1, many + 1, many, tidyings, moved))

    def test_it_grows_again(self):
        table = table_of(range(30))
        table.emptied()
        for key in range(5):
            table.put(key, key)
        self.assertEqual((size_of(table), table.counts()), (8, (5, 35, 30, 3, 36)))
        table.put(5, 5)
        self.assertEqual((size_of(table), table.counts()), (16, (6, 36, 30, 4, 41)))

    def test_a_great_table_without_keys(self):
        table = table_of(range(30))
        for key in range(30):
            table.take(key)
        self.assertEqual(size_of(table), 64)
        table.emptied()
        self.assertEqual(state(table), (([EMPTY] * 8, []), (0, 30, 30, 3, 36), [], 0))


class TestAsAShelf(BookCase):
    def test_values_and_keys_of_every_kind(self):
        table = Table()
        for number, key in enumerate(GOOD):
            self.assertIs(table.put(key, VALUES[number % len(VALUES)]), True)
        for number, key in enumerate(GOOD):
            self.assertIs(table.at(key), VALUES[number % len(VALUES)])
            self.assertIs(table.told(key, "other"), VALUES[number % len(VALUES)])
            self.assertIs(table.put(key, number), False)
        self.assertEqual(table.pairs(), [(key, number) for number, key in enumerate(GOOD)])
        for number, key in enumerate(GOOD):
            self.assertEqual(table.take(key), number)
            self.assertEqual((table.has(key), table.told(key, "other")), (False, "other"))

    def test_no_key(self):
        wrong = all_wrong()
        for table in (Table(), table_of(range(5)), table_of(range(12))):
            before = state(table)
            for thing in wrong:
                self.assert_refused(NoKey, table.put, thing, 1)
                for deed in (table.at, table.told, table.has, table.take, table.paper):
                    self.assert_refused(NoKey, deed, thing)
            self.assertEqual(state(table), before)

    def test_lacking(self):
        gone = table_of(range(12))
        for key in range(12):
            gone.take(key)
        for table in (Table(), gone, table_of([5, "a"])):
            before = state(table)
            for key in (99, "zz", (0,), TURN):
                self.assert_refused(Lacking, table.at, key)
                self.assert_refused(Lacking, table.take, key)
            self.assertEqual(state(table), before)
        for table in (Table(), gone):
            before = state(table)
            self.assert_refused(Lacking, table.take_last)
            self.assertEqual(state(table), before)

    def test_taking_the_last_pair_across_tidyings(self):
        table = table_of(range(6))
        table.take(0)
        table.put(0, "again")
        self.assertEqual([table.take_last() for turn in range(6)],
                         [(0, "again"), (5, "v6"), (4, "v5"), (3, "v4"), (2, "v3"), (1, "v2")])
        self.assertEqual(table.counts(), (0, 7, 7, 1, 5))

    def test_what_was_told_stays(self):
        table = table_of(range(5))
        told = (table.form(), table.pairs(), table.paper(3), table.counts(), table.after(2))
        asked = (
            ([0, 1, 2, 3, 4, -1, -1, -1], [0, 1, 2, 3, 4]), [(key, f"v{key + 1}") for key in range(5)], [(3, 3)],
            (5, 5, 0, 0, 0), (3, 2, "v3"),
        )
        self.assertEqual(told, asked)
        table.put(5, 1)
        table.take(3)
        table.put(4, "new")
        table.emptied()
        table.put(9, 1)
        self.assertEqual(told, asked)

    def test_what_was_told_and_then_changed_changes_nothing(self):
        for many in (0, 3, 5, 6, 30):
            table, other = table_of(range(many)), table_of(range(many))
            cells, row = table.form()
            for told in (cells, row, table.pairs(), table.paper(2)):
                told.append("more")
                told[0] = "other"
                told.clear()
            for key in range(40):
                self.assertEqual(table.put(key, 1), other.put(key, 1))
                self.assertEqual(state(table), state(other))


class TestManyDeeds(BookCase):
    def check(self, seed, many, keys):
        """Many deeds against the plain row; with each all that is told, and form, papers and keys moved."""
        table, plain = Table(), PlainBook(grows=True)
        for deed in deeds(seed, many, keys):
            self.assertEqual(answer(table, *deed), answer(plain, *deed), (seed, deed))
            self.assertEqual(state(table), state(plain), (seed, deed))
            cells, row = table.form()
            self.assertIs(in_form(cells, row), True, (seed, deed))
            there, came, went, tidyings, moved = table.counts()
            self.assertLessEqual(moved, 2 * came)
            for key in keys[::1 + len(keys) // 9] + ["lacking"]:
                self.assertEqual(table.paper(key), plain.paper(key))
                self.assertLessEqual(len(table.paper(key)), 1 + len(cells) - cells.count(EMPTY))
        return table

    def test_few_keys(self):
        for seed in range(30):
            self.check(seed, 150, [0, 8, 16, 64, 128, 7, -1, TURN, 2 * TURN, "", "a", 314, (), 11, ((0,),)][seed % 6:])

    def test_some_keys(self):
        for seed in range(6):
            self.check(seed, 250, list(range(20)) + [TURN * number for number in range(2, 22)] + GOOD[13:30])

    def test_some_hundreds_of_keys(self):
        some = range(300)
        for keys in (list(some), [64 * number for number in some], [(number, "k") for number in some]):
            table, plain = Table(), PlainBook(grows=True)
            for key in keys:
                self.assertEqual(table.put(key, 1), plain.put(key, 1))
            self.assertEqual(state(table), state(plain))
            for number, deed in enumerate(deeds(5, 500, keys)):
                self.assertEqual(answer(table, *deed), answer(plain, *deed))
                if number % 10 == 0:
                    self.assertEqual(state(table), state(plain))
                    self.assertIs(in_form(*table.form()), True)

    def test_in_form_while_it_grows_and_shrinks(self):
        table = Table()
        for key in range(200):
            table.put(TURN * key if key % 2 else (key,), key)
            self.assertIs(in_form(*table.form()), True)
        for key in range(200):
            table.take(TURN * key if key % 2 else (key,))
            self.assertIs(in_form(*table.form()), True)
            table.put("x", key)
            self.assertIs(in_form(*table.form()), True)
            table.take("x")
        self.assertEqual(table.many(), 0)

    def test_no_more_than_two_keys_moved_for_each_that_came(self):
        # Where each key stays, the keys moved come near to the bound.
        table = Table()
        for key in range(700):
            table.put(key, None)
            self.assertLessEqual(table.counts()[4], 2 * (key + 1))
        self.assertGreater(table.counts()[4], 1300)
        # Takings just ahead of a tidying, so that the next one comes soon.
        for left in range(6):
            table = Table()
            for key in range(400):
                table.put(key, None)
                if table.many() > left + 5:
                    table.take(key - left)
                counts = table.counts()
                self.assertLessEqual(counts[4], 2 * counts[1])


if __name__ == "__main__":
    unittest.main()

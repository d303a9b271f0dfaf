"""Promises [2], [3], [4], [12], [14] to [18]: a shelf."""

import unittest

from helper import (
    EMPTY, GONE, GOOD, LIKE_STAMPS, NO_SIZES, ROOMS, SIZES, VALUES, BookCase, PlainBook, Unhelpful, all_wrong, answer,
    deeds, state,
)
from slotbook.errors import Full, Lacking, NoKey, NoSize
from slotbook.forms import in_form
from slotbook.shelf import Shelf
from slotbook.stamps import TURN

KEYED = ("at", "told", "has", "take", "paper")
NUMBERS_ASKED = list(range(-3, 12)) + [10 ** 70, -10 ** 70, 1000, -1000]


def shelf_of(keys, size=8):
    """A shelf to which these keys came, each with a text that tells its number of coming."""
    shelf = Shelf(size)
    for number, key in enumerate(keys, start=1):
        shelf.put(key, f"v{number}")
    return shelf


def some_shelves():
    """Shelves without a key, with some, with places that are None, full of keys, and full of None."""
    worn, gone = shelf_of([0, 8, 64, "a", ()]), shelf_of([0, 1, 2, 3, 4])
    worn.take(8)
    worn.take("a")
    for key in range(5):
        gone.take(key)
    again = shelf_of([0, 8, 64])
    again.emptied()
    again.put(8, None)
    return [Shelf(), shelf_of([0]), shelf_of([0, 8, 64]), shelf_of([0, 8, 64, "a", ()]), worn, gone, again,
            shelf_of(list(range(10)), 16), shelf_of(["a", (1, 2)], 64)]


class TestMaking(BookCase):
    def test_without_a_size_it_has_eight(self):
        self.assertEqual(Shelf().form(), ([-1, -1, -1, -1, -1, -1, -1, -1], []))

    def test_each_size(self):
        for size in SIZES:
            for shelf in (Shelf(size), Shelf(size=size)):
                self.assertEqual(shelf.form(), ([EMPTY] * size, []))
                self.assertEqual(shelf.counts(), (0, 0, 0, 0, 0))
                self.assertEqual((shelf.many(), shelf.pairs()), (0, []))

    def test_no_size(self):
        for thing in NO_SIZES:
            self.assert_refused(NoSize, Shelf, thing)

    def test_two_shelves_share_nothing(self):
        one, other = Shelf(), Shelf()
        one.put(1, 2)
        self.assertEqual(state(other), (([EMPTY] * 8, []), (0, 0, 0, 0, 0), [], 0))


class TestPutting(BookCase):
    def test_each_place_goes_into_the_cell_with_which_the_paper_ended(self):
        shelf = Shelf()
        told = [shelf.put(0, "a"), shelf.put(8, "b"), shelf.put(64, "c"), shelf.put(7, "d"), shelf.put(15, "e")]
        self.assertEqual(told, [True] * 5)
        self.assertEqual(shelf.form(), ([0, 1, 4, 2, -1, -1, -1, 3], [0, 8, 64, 7, 15]))
        self.assertEqual(shelf.pairs(), [(0, "a"), (8, "b"), (64, "c"), (7, "d"), (15, "e")])
        self.assertEqual(shelf.counts(), (5, 5, 0, 0, 0))

    def test_one_cell_for_each_key_that_comes(self):
        for keys in LIKE_STAMPS + [[0, 8, 16, 24, 32], [64, 0, 128, 8, 256], [5, "b", (7,), -1, "x" * 60]]:
            shelf = Shelf()
            for place, key in enumerate(keys):
                cells, row = shelf.form()
                way = shelf.paper(key)
                self.assertEqual(way[-1][1], EMPTY)
                self.assertIs(shelf.put(key, place), True)
                cells[way[-1][0]] = place
                self.assertEqual(shelf.form(), (cells, row + [key]))
                self.assertEqual(shelf.paper(key), way[:-1] + [(way[-1][0], place)])

    def test_a_key_that_is_there_gets_its_value_and_nothing_else_changes(self):
        shelf = shelf_of([0, 8, 64])
        form = shelf.form()
        self.assertIs(shelf.put(8, "new"), False)
        self.assertIs(shelf.put(0, None), False)
        self.assertEqual(shelf.form(), form)
        self.assertEqual(shelf.counts(), (3, 3, 0, 0, 0))
        self.assertEqual(shelf.pairs(), [(0, None), (8, "new"), (64, "v3")])
        self.assertEqual([shelf.after(number) for number in range(4)],
                         [(1, 0, None), (2, 8, "new"), (3, 64, "v3"), None])

    def test_a_key_that_is_there_though_the_row_is_full(self):
        shelf = shelf_of([0, 1, 2, 3, 4])
        self.assertIs(shelf.put(4, "x"), False)
        self.assertEqual(shelf.pairs()[4], (4, "x"))
        self.assertEqual(shelf.counts(), (5, 5, 0, 0, 0))

    def test_full_where_the_row_has_as_many_places_as_there_is_room(self):
        for size, many in zip(SIZES[:7], ROOMS):
            shelf = shelf_of(range(many), size)
            self.assertEqual(shelf.many(), many)
            before = state(shelf)
            for key in (many, -1, "a", (), 10 ** 60 - 1):
                self.assert_refused(Full, shelf.put, key, 1)
                self.assertEqual(state(shelf), before)
            self.assertIs(shelf.put(0, 1), False)

    def test_full_in_the_greatest_size(self):
        shelf = Shelf(4096)
        for key in range(2730):
            self.assertIs(shelf.put(key, None), True)
        self.assert_refused(Full, shelf.put, 2730, None)
        self.assertEqual(shelf.counts(), (2730, 2730, 0, 0, 0))

    def test_places_that_are_none_count_too(self):
        shelf = shelf_of([0, 1, 2, 3, 4])
        for key in range(5):
            shelf.take(key)
            before = state(shelf)
            self.assert_refused(Full, shelf.put, 9, 1)
            self.assert_refused(Full, shelf.put, key, 1)
            self.assertEqual(state(shelf), before)
        self.assertEqual(shelf.form(), ([GONE] * 5 + [EMPTY] * 3, [None] * 5))

    def test_a_refused_put_is_no_coming(self):
        shelf = shelf_of([0, 1, 2, 3, 4])
        for turn in range(3):
            self.assert_refused(Full, shelf.put, 5, 1)
        shelf.emptied()
        shelf.put(5, "a")
        self.assertEqual(shelf.after(0), (6, 5, "a"))

    def test_keys_of_every_kind(self):
        shelf = Shelf(64)
        for key in GOOD[:42]:
            self.assertIs(shelf.put(key, ("of", key)), True)
        for key in GOOD[:42]:
            self.assertEqual((shelf.has(key), shelf.at(key)), (True, ("of", key)))
        for key in GOOD[42:]:
            self.assertIs(shelf.has(key), False)
        self.assertEqual(shelf.pairs(), [(key, ("of", key)) for key in GOOD[:42]])
        for key in GOOD:
            shelf = Shelf()
            self.assertIs(shelf.put(key, 1), True)
            self.assertIs(shelf.put(key, 2), False)
            self.assertEqual((shelf.form()[1], shelf.pairs()), ([key], [(key, 2)]))
            self.assertEqual(shelf.take(key), 2)
            self.assertEqual(shelf.form()[1], [None])

    def test_numbers_and_texts_are_told_apart(self):
        shelf = shelf_of([1, "1", (1,), ("1",), ""])
        self.assertEqual([shelf.at(key) for key in (1, "1", (1,), ("1",), "")], ["v1", "v2", "v3", "v4", "v5"])

    def test_unlike_keys_with_like_stamps(self):
        for keys in LIKE_STAMPS:
            shelf = shelf_of(keys)
            self.assertEqual([shelf.at(key) for key in keys], [f"v{number + 1}" for number in range(len(keys))])
            shelf.take(keys[0])
            self.assertEqual([shelf.has(key) for key in keys], [False] + [True] * (len(keys) - 1))
            self.assertIs(shelf.has(TURN * 7 + 1), False)

    def test_keys_alike_part_by_part_are_one(self):
        shelf = Shelf()
        shelf.put(("a", (1, "b")), 1)
        self.assertIs(shelf.put(tuple(["a", tuple([1, "".join(["b"])])]), 2), False)
        self.assertEqual(shelf.pairs(), [(("a", (1, "b")), 2)])

    def test_arguments_by_their_names(self):
        shelf = Shelf()
        self.assertIs(shelf.put(key=1, value=2), True)
        self.assertEqual((shelf.at(key=1), shelf.told(key=1, other=3), shelf.told(key=2, other=3)), (2, 2, 3))
        self.assertEqual((shelf.has(key=1), shelf.paper(key=1)), (True, [(1, 0)]))
        self.assertEqual((shelf.after(number=0), shelf.ahead(number=2)), ((1, 1, 2), (1, 1, 2)))
        self.assertEqual(shelf.take(key=1), 2)


class TestAsking(BookCase):
    def test_values_are_told_as_they_were_handed_in(self):
        for value in VALUES:
            shelf = Shelf()
            shelf.put("k", value)
            self.assertIs(shelf.at("k"), value)
            self.assertIs(shelf.told("k"), value)
            self.assertIs(shelf.told("k", "other"), value)
            self.assertIs(shelf.pairs()[0][1], value)
            self.assertIs(shelf.after(0)[2], value)
            self.assertIs(shelf.ahead(2)[2], value)
            self.assertIs(shelf.take("k"), value)
            shelf.put("k", value)
            self.assertIs(shelf.take_last()[1], value)

    def test_told_where_the_key_is_not_there(self):
        shelf = shelf_of([0])
        other = Unhelpful()
        for lacking in (1, 8, TURN, "0", (0,)):
            self.assertIs(shelf.told(lacking), None)
            self.assertIs(shelf.told(lacking, None), None)
            self.assertIs(shelf.told(lacking, other), other)
            for value in VALUES + [True, [1], {}, Lacking]:
                self.assertIs(shelf.told(lacking, value), value)
        self.assertEqual(shelf.told(0, other), "v1")

    def test_a_value_none_is_there(self):
        shelf = Shelf()
        shelf.put("a", None)
        self.assertEqual((shelf.at("a"), shelf.told("a", 5), shelf.has("a"), shelf.many()), (None, None, True, 1))
        self.assertEqual((shelf.pairs(), shelf.after(0)), ([("a", None)], (1, "a", None)))
        self.assertIs(shelf.put("a", 1), False)
        shelf.put("a", None)
        self.assertEqual(shelf.take_last(), ("a", None))

    def test_has(self):
        shelf = shelf_of([0, "a"])
        for key, asked in ((0, True), ("a", True), (8, False), (TURN, False), ("", False), ((0,), False)):
            self.assertIs(shelf.has(key), asked)

    def test_at_refuses_what_is_not_there(self):
        for shelf in some_shelves():
            before = state(shelf)
            for key in (99, "zz", (0,), TURN, -1):
                self.assert_refused(Lacking, shelf.at, key)
            self.assertEqual(state(shelf), before)

    def test_papers(self):
        shelf = shelf_of([0, 8, 64])
        shelf.take(0)
        for key, asked in (
            (8, [(0, -2), (1, 1)]), (64, [(0, -2), (3, 2)]), (0, [(0, -2), (1, 1), (2, -1)]),
            (72, [(0, -2), (3, 2), (6, -1)]), (5, [(5, -1)]), ("x", [(1, 1), (4, -1)]),
        ):
            self.assertEqual(shelf.paper(key), asked)

    def test_kinds(self):
        for shelf in some_shelves():
            self.assertEqual([shelf.many().__class__, shelf.pairs().__class__], [int, list])
            self.assertEqual({pair.__class__ for pair in shelf.pairs()} - {tuple}, set())
            counts = shelf.counts()
            self.assertEqual((counts.__class__, [one.__class__ for one in counts]), (tuple, [int] * 5))
            form = shelf.form()
            self.assertEqual((form.__class__, [one.__class__ for one in form]), (tuple, [list, list]))
            way = shelf.paper(5)
            self.assertEqual((way.__class__, {pair.__class__ for pair in way}), (list, {tuple}))
            for entry in (shelf.after(0), shelf.ahead(99)):
                if shelf.many():
                    self.assertEqual((entry.__class__, len(entry), entry[0].__class__), (tuple, 3, int))
                else:
                    self.assertIs(entry, None)


class TestNumbersOfComing(BookCase):
    def test_after_and_ahead_of_any_whole_number(self):
        shelf = shelf_of(["a", "b", "c", "d", "e"])
        shelf.take("b")
        shelf.take("e")
        a, c, d = (1, "a", "v1"), (3, "c", "v3"), (4, "d", "v4")
        for number, after, ahead in (
            (-10 ** 70, a, None), (-1, a, None), (0, a, None), (1, c, None), (2, c, a), (3, d, a), (4, None, c),
            (5, None, d), (6, None, d), (7, None, d), (10 ** 70, None, d),
        ):
            self.assertEqual((shelf.after(number), shelf.ahead(number)), (after, ahead), number)

    def test_where_no_key_is(self):
        emptied = shelf_of([0, 1])
        emptied.emptied()
        gone = shelf_of([0])
        gone.take(0)
        for shelf in (Shelf(), emptied, gone):
            for number in NUMBERS_ASKED:
                self.assertEqual((shelf.after(number), shelf.ahead(number)), (None, None))

    def test_a_key_that_went_and_came_has_a_new_number(self):
        shelf = shelf_of(["a", "b", "c"])
        shelf.take("a")
        self.assertIs(shelf.put("a", "again"), True)
        self.assertEqual(shelf.after(3), (4, "a", "again"))
        self.assertEqual(shelf.pairs(), [("b", "v2"), ("c", "v3"), ("a", "again")])
        self.assertEqual(shelf.after(0), (2, "b", "v2"))

    def test_a_new_value_leaves_the_number(self):
        shelf = shelf_of(["a", "b"])
        shelf.put("a", "new")
        self.assertEqual((shelf.after(0), shelf.ahead(2)), ((1, "a", "new"), (1, "a", "new")))

    def test_numbers_go_on_behind_an_emptying(self):
        shelf = shelf_of(["a", "b", "c"])
        shelf.emptied()
        shelf.put("a", 1)
        shelf.emptied()
        shelf.emptied()
        shelf.put("z", 2)
        shelf.put("a", 3)
        self.assertEqual([shelf.after(number) for number in (0, 4, 5, 6)],
                         [(5, "z", 2), (5, "z", 2), (6, "a", 3), None])

    def test_numbers_go_on_behind_takings(self):
        shelf = shelf_of(["a", "b"])
        shelf.take_last()
        shelf.put("c", 1)
        self.assertEqual((shelf.after(1), shelf.ahead(99)), ((3, "c", 1), (3, "c", 1)))


class TestTaking(BookCase):
    def test_its_cell_becomes_gone_and_its_place_none(self):
        shelf = shelf_of([0, 8, 64])
        self.assertEqual(shelf.take(8), "v2")
        self.assertEqual(shelf.form(), ([0, -2, -1, 2, -1, -1, -1, -1], [0, None, 64]))
        self.assertEqual(shelf.take(0), "v1")
        self.assertEqual(shelf.form(), ([-2, -2, -1, 2, -1, -1, -1, -1], [None, None, 64]))
        self.assertEqual((shelf.pairs(), shelf.counts()), ([(64, "v3")], (1, 3, 2, 0, 0)))
        self.assertEqual(shelf.take(64), "v3")
        self.assertEqual(shelf.form(), ([-2, -2, -1, -2, -1, -1, -1, -1], [None, None, None]))
        self.assertEqual((shelf.pairs(), shelf.counts()), ([], (0, 3, 3, 0, 0)))

    def test_one_cell_for_each_key_that_goes(self):
        keys = [0, 8, 64, TURN, -1]
        for key in keys:
            shelf = shelf_of(keys)
            cells, row = shelf.form()
            shelf.take(key)
            cells[cells.index(row.index(key))] = GONE
            row[row.index(key)] = None
            self.assertEqual(shelf.form(), (cells, row))

    def test_a_cell_that_is_gone_is_not_taken_again(self):
        shelf = shelf_of([0, 8])
        shelf.take(0)
        self.assertIs(shelf.put(0, "again"), True)
        self.assertEqual(shelf.form(), ([-2, 1, 2, -1, -1, -1, -1, -1], [None, 8, 0]))
        shelf.take(0)
        shelf.put(0, "once more")
        self.assertEqual(shelf.form(), ([-2, 1, -2, 3, -1, -1, -1, -1], [None, 8, None, 0]))
        shelf.take(8)
        shelf.put(64, "other")
        self.assertEqual(shelf.form(), ([-2, -2, -2, 3, -1, -1, 4, -1], [None, None, None, 0, 64]))

    def test_a_key_that_is_not_there_is_lacking(self):
        for shelf in some_shelves():
            before = state(shelf)
            for key in (99, "zz", (0,), TURN, -1):
                self.assert_refused(Lacking, shelf.take, key)
            self.assertEqual(state(shelf), before)

    def test_a_key_that_was_taken_is_lacking(self):
        shelf = shelf_of([0, 8, 64])
        shelf.take(8)
        before = state(shelf)
        for deed in (shelf.take, shelf.at):
            self.assert_refused(Lacking, deed, 8)
        self.assertEqual((shelf.has(8), shelf.told(8), shelf.told(8, 3)), (False, None, 3))
        self.assertEqual(state(shelf), before)

    def test_taking_the_last_pair(self):
        shelf = shelf_of([0, 8, 64])
        told = shelf.take_last()
        self.assertEqual((told, told.__class__), ((64, "v3"), tuple))
        self.assertEqual(shelf.form(), ([0, 1, -1, -2, -1, -1, -1, -1], [0, 8, None]))
        self.assertEqual(shelf.counts(), (2, 3, 1, 0, 0))
        self.assertEqual([shelf.take_last(), shelf.take_last()], [(8, "v2"), (0, "v1")])
        self.assertEqual(shelf.counts(), (0, 3, 3, 0, 0))

    def test_taking_the_last_pair_behind_takings(self):
        shelf = shelf_of([0, 8, 64, 1, 2])
        shelf.take(2)
        shelf.take(8)
        shelf.take(1)
        shelf.put(0, "new")
        self.assertEqual([shelf.take_last(), shelf.take_last()], [(64, "v3"), (0, "new")])
        self.assert_refused(Lacking, shelf.take_last)

    def test_the_last_is_the_last_that_came_not_the_last_that_was_put(self):
        shelf = shelf_of(["a", "b", "c"])
        shelf.take("a")
        shelf.put("a", 4)
        shelf.put("b", 5)
        self.assertEqual([shelf.take_last() for turn in range(3)], [("a", 4), ("c", "v3"), ("b", 5)])

    def test_where_no_key_is_the_last_is_lacking(self):
        emptied = shelf_of([0, 1])
        emptied.emptied()
        gone = shelf_of([0, 1])
        gone.take(0)
        gone.take(1)
        for shelf in (Shelf(), emptied, gone):
            before = state(shelf)
            self.assert_refused(Lacking, shelf.take_last)
            self.assertEqual(state(shelf), before)


class TestEmptying(BookCase):
    def test_all_cells_empty_no_place_and_the_size_stays(self):
        for size, many in zip(SIZES[:5], ROOMS):
            shelf = shelf_of(range(many), size)
            self.assertIs(shelf.emptied(), None)
            self.assertEqual(shelf.form(), ([EMPTY] * size, []))
            self.assertEqual((shelf.counts(), shelf.pairs()), ((0, many, many, 0, 0), []))

    def test_those_that_went_before_are_not_counted_again(self):
        shelf = shelf_of([0, 1, 2, 3])
        shelf.take(1)
        shelf.take_last()
        shelf.emptied()
        self.assertEqual((shelf.form(), shelf.counts()), (([EMPTY] * 8, []), (0, 4, 4, 0, 0)))

    def test_where_no_key_is(self):
        shelf = Shelf()
        shelf.emptied()
        self.assertEqual(state(shelf), state(Shelf()))
        shelf.put(0, 1)
        shelf.take(0)
        shelf.emptied()
        self.assertEqual((shelf.form(), shelf.counts()), (([EMPTY] * 8, []), (0, 1, 1, 0, 0)))

    def test_there_is_room_again(self):
        shelf = shelf_of([0, 1, 2, 3, 4])
        self.assert_refused(Full, shelf.put, 5, 1)
        shelf.emptied()
        for key in range(5):
            self.assertIs(shelf.put(8 * key, key), True)
        self.assert_refused(Full, shelf.put, 5, 1)
        self.assertEqual((shelf.form()[1], shelf.counts()), ([0, 8, 16, 24, 32], (5, 10, 5, 0, 0)))


class TestRefusals(BookCase):
    def test_no_key(self):
        wrong = all_wrong()
        for shelf in (Shelf(), shelf_of([0, "a"]), shelf_of([0, 1, 2, 3, 4])):
            before = state(shelf)
            for thing in wrong:
                self.assert_refused(NoKey, shelf.put, thing, 1)
                for deed in KEYED:
                    self.assert_refused(NoKey, getattr(shelf, deed), thing)
            self.assertEqual(state(shelf), before)

    def test_no_key_with_any_value_and_any_other(self):
        for shelf in some_shelves():
            before = state(shelf)
            for value in VALUES:
                self.assert_refused(NoKey, shelf.put, [0], value)
                self.assert_refused(NoKey, shelf.told, None, value)
            self.assertEqual(state(shelf), before)

    def test_each_deed_behind_a_refused_one_answers_as_if_that_had_not_been(self):
        one, other = Shelf(), Shelf()
        for key in (0, 8, 64, "a"):
            for deed in (one.take, one.at):
                self.assert_refused(Lacking, deed, 99)
            self.assert_refused(NoKey, one.put, True, 1)
            self.assertEqual(one.put(key, 1), other.put(key, 1))
            self.assertEqual(state(one), state(other))


class TestWhatIsTold(BookCase):
    def test_lists_that_the_asker_changes_change_nothing(self):
        for shelf in some_shelves():
            before = state(shelf)
            entries = [shelf.after(number) for number in NUMBERS_ASKED]
            cells, row = shelf.form()
            for told in (cells, row, shelf.pairs(), shelf.paper(0), shelf.paper("zz")):
                told.reverse()
                told.append("more")
                told[0] = "other"
            self.assertEqual(state(shelf), before)
            self.assertEqual([shelf.after(number) for number in NUMBERS_ASKED], entries)

    def test_what_is_done_later_changes_nothing_that_was_told(self):
        shelf = shelf_of([0, 8, 64])
        told = (shelf.form(), shelf.pairs(), shelf.paper(64), shelf.paper(16), shelf.counts(), shelf.after(0))
        asked = (
            ([0, 1, -1, 2, -1, -1, -1, -1], [0, 8, 64]), [(0, "v1"), (8, "v2"), (64, "v3")], [(0, 0), (3, 2)],
            [(0, 0), (1, 1), (2, -1)], (3, 3, 0, 0, 0), (1, 0, "v1"),
        )
        self.assertEqual(told, asked)
        shelf.put(0, "new")
        shelf.take(64)
        shelf.put(16, "more")
        self.assertEqual(told, asked)
        shelf.take_last()
        shelf.emptied()
        shelf.put(5, "last")
        self.assertEqual(told, asked)


class TestManyDeeds(BookCase):
    def test_against_a_plain_row_of_pairs(self):
        keys = [0, 8, 16, 64, 128, 7, 15, -1, TURN, 2 * TURN, "", "a", 314, (), 11, ((0,),), ("a", (1, ()))]
        for seed in range(40):
            size = SIZES[seed % 3]
            shelf, plain = Shelf(size), PlainBook(size)
            # A greater shelf is filled by more keys, so that it is Full at times too.
            some = keys[seed % 5:] + list(range(20, 20 + size))
            for deed in deeds(seed, 150, some, 1):
                self.assertEqual(answer(shelf, *deed), answer(plain, *deed), (seed, deed))
                self.assertEqual(state(shelf), state(plain), (seed, deed))
                self.assertIs(in_form(*shelf.form()), True, (seed, deed))

    def test_papers_amid_many_deeds(self):
        keys = [0, 8, 16, 64, 72, 128, TURN, 2 * TURN, "", 7, "a", 314, (), 11]
        for seed in range(20):
            shelf, plain = Shelf(), PlainBook()
            for deed in deeds(seed, 60, keys, 1):
                answer(shelf, *deed)
                answer(plain, *deed)
                bound = 1 + 8 - shelf.form()[0].count(EMPTY)
                for key in keys + [99, "zz"]:
                    self.assertEqual(shelf.paper(key), plain.paper(key))
                    self.assertLessEqual(len(shelf.paper(key)), bound)

    def test_after_and_ahead_amid_many_deeds(self):
        for seed in range(10):
            shelf, plain = Shelf(16), PlainBook(16)
            for deed in deeds(seed, 80, list(range(14)), 1):
                answer(shelf, *deed)
                answer(plain, *deed)
                for number in range(-2, plain.came + 3):
                    self.assertEqual(shelf.after(number), plain.after(number))
                    self.assertEqual(shelf.ahead(number), plain.ahead(number))

    def test_tidyings_and_keys_moved_stay_nought(self):
        shelf = Shelf()
        for deed in deeds(3, 300, list(range(9)), 1):
            answer(shelf, *deed)
            self.assertEqual(shelf.counts()[3:], (0, 0))
            self.assertEqual(len(shelf.form()[0]), 8)


if __name__ == "__main__":
    unittest.main()

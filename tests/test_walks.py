"""Promises [2], [5], [21], [22]: walks over shelves and tables."""

import unittest

from helper import GOOD, VALUES, BookCase, PlainBook, PlainWalk, answer, deeds, numbers, state
from slotbook.errors import BookError, Broken, Full, Lacking
from slotbook.shelf import Shelf
from slotbook.table import Table
from slotbook.walks import Walk

WAYS = [(False, False), (True, False), (False, True), (True, True)]


def filled(book, keys="abc"):
    """The book, to which these keys came, each with a text that tells its number of coming."""
    for number, key in enumerate(keys, start=1):
        book.put(key, f"v{number}")
    return book


def books(keys="abc"):
    """A shelf, a greater one and a table with these keys."""
    return [filled(Shelf(16), keys), filled(Shelf(64), keys), filled(Table(), keys)]


def steps(walk, many=50):
    """What a walk tells, step by step, up to and with None."""
    told = [walk.step()]
    while told[-1] is not None and len(told) < many:
        told.append(walk.step())
    return told


class WalkCase(BookCase):
    def assert_broken(self, walk):
        for time in range(3):
            self.assert_refused(Broken, walk.step)

    def assert_over(self, walk):
        for time in range(3):
            self.assertIs(walk.step(), None)


class TestWalking(WalkCase):
    def test_forward(self):
        for book in books():
            walk = Walk(book)
            self.assertEqual(steps(walk), [("a", "v1"), ("b", "v2"), ("c", "v3"), None])
            self.assert_over(walk)

    def test_backward(self):
        for book in books():
            walk = Walk(book, True)
            self.assertEqual(steps(walk), [("c", "v3"), ("b", "v2"), ("a", "v1"), None])
            self.assert_over(walk)

    def test_strict_where_nothing_changes(self):
        for book in books():
            self.assertEqual(steps(Walk(book, False, True)), book.pairs() + [None])
            self.assertEqual(steps(Walk(book, True, True)), book.pairs()[::-1] + [None])

    def test_arguments_by_their_names(self):
        for book in books():
            forward, backward = book.pairs() + [None], book.pairs()[::-1] + [None]
            self.assertEqual(steps(Walk(book=book)), forward)
            self.assertEqual(steps(Walk(book=book, back=False, strict=False)), forward)
            self.assertEqual(steps(Walk(book, back=True)), backward)
            walk = Walk(book, strict=True)
            book.put("z", 1)
            self.assert_broken(walk)

    def test_without_keys(self):
        for back, strict in WAYS:
            gone = filled(Table())
            gone.emptied()
            taken = filled(Shelf())
            for key in "abc":
                taken.take(key)
            for book in (Shelf(), Table(), gone, taken):
                self.assert_over(Walk(book, back, strict))

    def test_keys_and_values_of_every_kind(self):
        table = Table()
        for number, key in enumerate(GOOD):
            table.put(key, VALUES[number % len(VALUES)])
        self.assertEqual(steps(Walk(table)), table.pairs() + [None])
        self.assertEqual(steps(Walk(table, True)), table.pairs()[::-1] + [None])

    def test_a_value_none_is_no_end(self):
        table = Table()
        for key in (0, "", ()):
            table.put(key, None)
        self.assertEqual(steps(Walk(table)), [(0, None), ("", None), ((), None), None])
        self.assertEqual(steps(Walk(table, True)), [((), None), ("", None), (0, None), None])

    def test_kinds(self):
        for book in books():
            for back, strict in WAYS:
                told = Walk(book, back, strict).step()
                self.assertEqual((told.__class__, len(told)), (tuple, 2))

    def test_a_walk_changes_nothing(self):
        for book in books():
            before = state(book)
            for back, strict in WAYS:
                steps(Walk(book, back, strict))
            self.assertEqual(state(book), before)

    def test_a_book_with_takings_behind_it(self):
        for book in books("abcdef"):
            for key in "ace":
                book.take(key)
            book.put("c", "again")
            there = [("b", "v2"), ("d", "v4"), ("f", "v6"), ("c", "again")]
            for strict in (False, True):
                self.assertEqual(steps(Walk(book, False, strict)), there + [None])
                self.assertEqual(steps(Walk(book, True, strict)), there[::-1] + [None])


class TestWhileTheBookIsChanged(WalkCase):
    def test_the_value_as_it_is_then(self):
        for book in books():
            forward, backward = Walk(book), Walk(book, True)
            book.put("a", "new")
            self.assertEqual(forward.step(), ("a", "new"))
            book.put("b", "newer")
            book.put("a", "late")
            self.assertEqual((forward.step(), backward.step()), (("b", "newer"), ("c", "v3")))
            book.put("b", None)
            self.assertEqual((backward.step(), backward.step()), (("b", None), ("a", "late")))

    def test_a_key_that_comes_is_told_forward_and_not_backward(self):
        for book in books():
            forward, backward = Walk(book), Walk(book, True)
            book.put("d", 4)
            self.assertEqual((forward.step(), backward.step()), (("a", "v1"), ("c", "v3")))
            book.put("e", 5)
            self.assertEqual(steps(forward), [("b", "v2"), ("c", "v3"), ("d", 4), ("e", 5), None])
            self.assertEqual(steps(backward), [("b", "v2"), ("a", "v1"), None])

    def test_a_key_that_comes_ahead_of_the_first_step(self):
        for book in (Shelf(), Table()):
            forward, backward = Walk(book), Walk(book, True)
            book.put("a", 1)
            self.assertEqual((forward.step(), backward.step()), (("a", 1), None))

    def test_a_backward_walk_begins_with_the_last_of_those_that_were_there(self):
        for book in books():
            walk = Walk(book, True)
            book.put("d", 4)
            book.take("c")
            self.assertEqual(steps(walk), [("b", "v2"), ("a", "v1"), None])

    def test_a_key_that_goes_is_not_told(self):
        for book in books("abcde"):
            forward, backward = Walk(book), Walk(book, True)
            book.take("a")
            book.take("e")
            self.assertEqual((forward.step(), backward.step()), (("b", "v2"), ("d", "v4")))
            book.take("c")
            self.assertEqual((forward.step(), backward.step()), (("d", "v4"), ("b", "v2")))
            self.assertEqual((forward.step(), backward.step()), (None, None))

    def test_the_key_told_last_goes(self):
        for book in books():
            forward, backward = Walk(book), Walk(book, True)
            self.assertEqual(forward.step(), ("a", "v1"))
            book.take("a")
            self.assertEqual(backward.step(), ("c", "v3"))
            book.take("c")
            self.assertEqual((forward.step(), backward.step()), (("b", "v2"), ("b", "v2")))
            self.assertEqual((forward.step(), backward.step()), (None, None))

    def test_a_key_that_went_and_came_has_a_new_number(self):
        for book in books():
            forward, backward = Walk(book), Walk(book, True)
            self.assertEqual((forward.step(), backward.step()), (("a", "v1"), ("c", "v3")))
            book.take("a")
            book.put("a", 4)
            book.take("b")
            book.put("b", 5)
            self.assertEqual(steps(forward), [("c", "v3"), ("a", 4), ("b", 5), None])
            self.assertEqual(steps(backward), [None])

    def test_emptyings(self):
        for book in books():
            forward, backward, late = Walk(book), Walk(book, True), Walk(book)
            self.assertEqual((forward.step(), backward.step()), (("a", "v1"), ("c", "v3")))
            book.emptied()
            book.put("b", 4)
            book.put("a", 5)
            self.assertEqual(steps(forward), [("b", 4), ("a", 5), None])
            self.assertEqual(steps(backward), [None])
            self.assertEqual(steps(late), [("b", 4), ("a", 5), None])
            self.assertEqual(steps(Walk(book, True)), [("a", 5), ("b", 4), None])

    def test_a_tidying_between_two_steps(self):
        table = filled(Table(), range(5))
        forward, backward = Walk(table), Walk(table, True)
        self.assertEqual([forward.step(), forward.step()], [(0, "v1"), (1, "v2")])
        self.assertEqual([backward.step(), backward.step()], [(4, "v5"), (3, "v4")])
        table.take(0)
        table.take(2)
        table.put(5, "v6")
        self.assertEqual(table.counts()[3], 1)
        self.assertEqual(steps(forward), [(3, "v4"), (4, "v5"), (5, "v6"), None])
        self.assertEqual(steps(backward), [(1, "v2"), None])

    def test_many_tidyings_between_steps(self):
        table = filled(Table(), range(5))
        forward, backward = Walk(table), Walk(table, True)
        self.assertEqual((forward.step(), backward.step()), ((0, "v1"), (4, "v5")))
        for key in range(5, 200):
            table.put(key, key)
        for key in range(10, 190):
            table.take(key)
        for turn in range(400):
            table.put("x", turn)
            table.take("x")
        self.assertGreater(table.counts()[3], 6)
        there = [(1, "v2"), (2, "v3"), (3, "v4"), (4, "v5")] + [(key, key) for key in range(5, 10)]
        self.assertEqual(steps(forward), there + [(key, key) for key in range(190, 200)] + [None])
        self.assertEqual(steps(backward), [(3, "v4"), (2, "v3"), (1, "v2"), (0, "v1"), None])

    def test_a_walk_that_puts_at_each_step_goes_on(self):
        table = filled(Table(), [0])
        walk = Walk(table)
        for key in range(100):
            self.assertEqual(walk.step()[0], key)
            table.put(key + 1, None)
        self.assertEqual((walk.step(), walk.step()), ((100, None), None))

    def test_a_walk_that_takes_out_what_it_told(self):
        for back in (False, True):
            table = filled(Table(), range(50))
            walk, told = Walk(table, back), []
            pair = walk.step()
            while pair is not None:
                told.append(pair[0])
                table.take(pair[0])
                pair = walk.step()
            self.assertEqual(told, sorted(range(50), reverse=back))
            self.assertEqual(table.many(), 0)

    def test_each_thing_that_stayed_is_told_just_once(self):
        for seed in range(20):
            table = filled(Table(), range(30))
            forward, backward, told, back = Walk(table), Walk(table, True), [], []
            some = numbers(seed)
            pair, other = forward.step(), backward.step()
            while pair is not None or other is not None:
                told.append(pair)
                back.append(other)
                if len(told) < 40:
                    table.put(100 + next(some) % 40, 1)
                answer(table, "take", 100 + next(some) % 40)
                answer(table, "take", 20 + next(some) % 10)
                pair, other = forward.step(), backward.step()
            for key in range(20):
                self.assertEqual((told.count((key, f"v{key + 1}")), back.count((key, f"v{key + 1}"))), (1, 1))

    def test_what_was_told_stays(self):
        table = filled(Table())
        walk = Walk(table)
        told = walk.step()
        table.put("a", "new")
        table.take("a")
        table.emptied()
        walk.step()
        self.assertEqual(told, ("a", "v1"))


class TestOver(WalkCase):
    def test_a_walk_that_is_over_tells_none_whatever_is_done(self):
        for back, strict in WAYS:
            for book in books():
                walk = Walk(book, back, strict)
                steps(walk)
                for deed in (("put", "d", 4), ("put", "a", 9), ("take", "a"), ("put", "a", 5), ("take_last",),
                             ("emptied",), ("put", "a", 1), ("put", "b", 2)):
                    answer(book, *deed)
                    self.assert_over(walk)

    def test_over_at_the_first_step(self):
        for back, strict in WAYS:
            for book in (Shelf(), Table()):
                walk = Walk(book, back, strict)
                self.assertIs(walk.step(), None)
                for key in range(5):
                    book.put(key, 1)
                    self.assert_over(walk)

    def test_not_over_while_none_was_not_told(self):
        for book in books():
            walk = Walk(book)
            for turn in range(3):
                walk.step()
            book.put("d", 4)
            self.assertEqual(walk.step(), ("d", 4))
            self.assert_over(walk)
            book.put("e", 5)
            self.assert_over(walk)


class TestStrict(WalkCase):
    def test_broken_by_a_coming(self):
        for back in (False, True):
            for before in range(4):
                for book in books():
                    walk = Walk(book, back, True)
                    for turn in range(before):
                        self.assertIsNotNone(walk.step())
                    book.put("d", 4)
                    self.assert_broken(walk)

    def test_broken_by_a_going(self):
        for back in (False, True):
            for before in range(4):
                for deed in (("take", "a"), ("take", "b"), ("take", "c"), ("take_last",), ("emptied",)):
                    for book in books():
                        walk = Walk(book, back, True)
                        for turn in range(before):
                            walk.step()
                        answer(book, *deed)
                        self.assert_broken(walk)

    def test_broken_even_where_it_would_have_told_none(self):
        for back in (False, True):
            for book in (Shelf(), Table()):
                walk = Walk(book, back, True)
                book.put("a", 1)
                book.take("a")
                self.assert_broken(walk)
            for book in (filled(Shelf(), "a"), filled(Table(), "a")):
                walk = Walk(book, back, True)
                walk.step()
                book.take("a")
                self.assert_broken(walk)
        for book in (Shelf(), Table()):
            walk = Walk(book, True, True)
            book.put("a", 1)
            self.assert_broken(walk)

    def test_broken_by_one_that_went_and_one_that_came(self):
        for back in (False, True):
            for book in books():
                walk = Walk(book, back, True)
                walk.step()
                book.take("b")
                book.put("b", "v2")
                self.assert_broken(walk)
            for book in books():
                walk = Walk(book, back, True)
                book.put("d", 1)
                book.take("d")
                self.assert_broken(walk)
            for book in books():
                walk = Walk(book, back, True)
                book.take_last()
                book.put("d", 1)
                self.assert_broken(walk)

    def test_broken_for_ever(self):
        for back in (False, True):
            for book in books():
                walk = Walk(book, back, True)
                book.put("d", 4)
                self.assert_broken(walk)
                for deed in (("take", "d"), ("put", "a", 1), ("emptied",), ("emptied",), ("put", "a", 2)):
                    answer(book, *deed)
                    self.assert_broken(walk)

    def test_a_new_value_breaks_nothing(self):
        for book in books():
            forward, backward = Walk(book, False, True), Walk(book, True, True)
            for key in "abc":
                book.put(key, "new")
            self.assertEqual((forward.step(), backward.step()), (("a", "new"), ("c", "new")))
            book.put("b", None)
            self.assertEqual((forward.step(), backward.step()), (("b", None), ("b", None)))
            book.put("c", 1)
            book.put("a", 2)
            self.assertEqual(steps(forward), [("c", 1), None])
            self.assertEqual(steps(backward), [("a", 2), None])

    def test_a_new_value_in_a_full_row_breaks_nothing(self):
        for book in (filled(Shelf(), range(5)), filled(Table(), range(5))):
            walk = Walk(book, False, True)
            walk.step()
            book.put(3, "new")
            self.assertEqual(steps(walk), [(1, "v2"), (2, "v3"), (3, "new"), (4, "v5"), None])

    def test_an_emptying_where_no_key_is_breaks_nothing(self):
        for back in (False, True):
            gone = filled(Table(), range(30))
            for key in range(30):
                gone.take(key)
            emptied = filled(Table(), range(30))
            emptied.emptied()
            for book in (Shelf(), Table(), gone, emptied):
                walk = Walk(book, back, True)
                book.emptied()
                self.assert_over(walk)

    def test_a_refused_deed_breaks_nothing(self):
        for back in (False, True):
            for book in (filled(Shelf(), range(5)), filled(Table(), range(5))):
                walk = Walk(book, back, True)
                told = []
                for turn in range(6):
                    for deed in (("put", None, 1), ("put", [1], 1), ("take", True), ("take", 99), ("at", 99),
                                 ("at", 1.5), ("told", None), ("has", [])):
                        self.assertTrue(issubclass(answer(book, *deed), BookError))
                    if book.__class__ is Shelf:
                        self.assertIs(answer(book, "put", 99, 1), Full)
                    told.append(walk.step())
                self.assertEqual(told, (book.pairs()[::-1] if back else book.pairs()) + [None])
            for book in (Shelf(), Table()):
                walk = Walk(book, back, True)
                self.assertIs(answer(book, "take_last"), Lacking)
                self.assert_over(walk)

    def test_no_question_breaks_a_walk(self):
        for book in books():
            walk = Walk(book, False, True)
            for deed in (("has", "a"), ("told", "z"), ("at", "a"), ("paper", "z"), ("form",), ("counts",), ("pairs",),
                         ("many",), ("after", 0), ("ahead", 9)):
                answer(book, *deed)
            self.assertEqual(steps(walk), book.pairs() + [None])

    def test_changes_ahead_of_its_making_are_nothing_to_it(self):
        for book in books():
            book.take("b")
            book.put("d", 4)
            self.assertEqual(steps(Walk(book, False, True)), [("a", "v1"), ("c", "v3"), ("d", 4), None])
            book.emptied()
            book.put("e", 5)
            self.assertEqual(steps(Walk(book, True, True)), [("e", 5), None])

    def test_a_refused_step_changes_nothing(self):
        for book in books():
            strict, forward, backward = Walk(book, False, True), Walk(book), Walk(book, True)
            forward.step()
            backward.step()
            book.put("d", 4)
            before = state(book)
            self.assert_broken(strict)
            self.assertEqual(state(book), before)
            self.assertEqual(steps(forward), [("b", "v2"), ("c", "v3"), ("d", 4), None])
            self.assertEqual(steps(backward), [("b", "v2"), ("a", "v1"), None])
            self.assert_broken(strict)

    def test_a_walk_that_is_not_strict_is_never_broken(self):
        for back in (False, True):
            table = filled(Table(), range(5))
            walk = Walk(table, back)
            for deed in deeds(7, 200, list(range(12))):
                answer(table, *deed)
                walk.step()


class TestSeveralWalks(WalkCase):
    def test_each_goes_its_own_way(self):
        for book in books():
            one, two, back = Walk(book), Walk(book), Walk(book, True)
            self.assertEqual([one.step(), one.step()], [("a", "v1"), ("b", "v2")])
            self.assertEqual([two.step(), back.step()], [("a", "v1"), ("c", "v3")])
            self.assertEqual([one.step(), one.step()], [("c", "v3"), None])
            self.assertEqual(steps(two), [("b", "v2"), ("c", "v3"), None])
            self.assertEqual(steps(back), [("b", "v2"), ("a", "v1"), None])

    def test_over_two_books(self):
        one, other = filled(Table()), filled(Table())
        walk, strict = Walk(one, False, True), Walk(other, False, True)
        other.put("d", 4)
        self.assertEqual(steps(walk), one.pairs() + [None])
        self.assert_broken(strict)

    def test_amid_many_deeds(self):
        for seed in range(60):
            size = 8 if seed % 2 else 32
            book, plain = (Table(), PlainBook(grows=True)) if seed % 4 < 2 else (Shelf(size), PlainBook(size))
            some, walks = numbers(seed), []
            for deed in deeds(seed, 120, list(range(10 + seed)), 1 + seed % 3):
                self.assertEqual(answer(book, *deed), answer(plain, *deed))
                if next(some) % 4 == 0:
                    back, strict = WAYS[next(some) % 4]
                    walks.append((Walk(book, back, strict), PlainWalk(plain, back, strict)))
                for turn in range(min(len(walks), next(some) % 5)):
                    walk, asked = walks[next(some) % len(walks)]
                    self.assertEqual(answer(walk, "step"), answer(asked, "step"), seed)
                self.assertEqual(state(book), state(plain))


if __name__ == "__main__":
    unittest.main()

"""Promise [2], and the interface: the classes of refusal."""

import unittest

from slotbook import errors

REFUSALS = ("NoKey", "NoSize", "Full", "Lacking", "Broken", "NoText", "NoDeed", "NoName", "Twice")


def refusals():
    return [getattr(errors, name) for name in REFUSALS]


class TestErrors(unittest.TestCase):
    def test_book_error_is_a_value_error(self):
        self.assertEqual(errors.BookError.__bases__, (ValueError,))

    def test_each_refusal_stands_right_under_book_error(self):
        for refusal in refusals():
            self.assertEqual(refusal.__bases__, (errors.BookError,), refusal)

    def test_no_refusal_stands_under_another_one(self):
        for one in refusals():
            for other in refusals():
                self.assertEqual(issubclass(one, other), one is other, (one, other))

    def test_the_names_stand_for_nine_classes(self):
        self.assertEqual([refusal.__name__ for refusal in refusals()], list(REFUSALS))
        self.assertEqual(len(set(refusals())), 9)
        self.assertEqual(set(errors.BookError.__subclasses__()), set(refusals()))

    def test_each_is_raised_with_words_and_taken_as_book_error(self):
        for refusal in refusals():
            with self.assertRaises(errors.BookError) as taken:
                raise refusal("some words")
            self.assertEqual(str(taken.exception), "some words")


if __name__ == "__main__":
    unittest.main()

import copy
import unittest

from fallingfields import books, booktexts
from samples import CALM, answer, any_values

RIGHT = (CALM, (2, 1), (0, 1, 1), (((0, 1), 3), ((1,), 10 ** 30)), "6/4 3/2", "3 0")
OF_VALUE = {"book_error": books, "read_book": booktexts}
OF_BOOK_AND_VALUE = {"record_error": books, "row_error": books, "pieces_error": books, "read_record": booktexts}


def values():
    return any_values() + list(RIGHT)


def calls():
    """Return pairs of one call by place and the same call by name, both of a value."""
    pairs = []
    for name, module in OF_VALUE.items():
        function = getattr(module, name)
        pairs.append((lambda v, f=function: f(v), lambda v, f=function: f(value=v)))
    for name, module in OF_BOOK_AND_VALUE.items():
        function = getattr(module, name)
        pairs.append((lambda v, f=function: f(CALM, v), lambda v, f=function: f(value=v, book=CALM)))
    return pairs


class ConventionsTest(unittest.TestCase):
    def test_arguments_by_place_and_by_name(self):
        for by_place, by_name in calls():
            for value in values():
                with self.subTest(value=repr(value)[:80]):
                    self.assertEqual(answer(lambda: by_place(value)), answer(lambda: by_name(value)))
        self.assertEqual(booktexts.book_text(book=CALM), booktexts.book_text(CALM))
        self.assertEqual(booktexts.record_text(record=(3, 0)), booktexts.record_text((3, 0)))

    def test_equal_calls_tell_equal_things(self):
        for call, _ in calls():
            for value in values():
                with self.subTest(value=repr(value)[:80]):
                    self.assertEqual(answer(lambda: call(value)), answer(lambda: call(copy.deepcopy(value))))

    def test_what_is_handed_in_is_never_changed(self):
        for call, _ in calls():
            for value in values():
                with self.subTest(value=repr(value)[:80]):
                    ahead = repr(copy.deepcopy(value))
                    answer(lambda: call(value))
                    self.assertEqual(repr(value), ahead)

    def test_bools_are_no_integers(self):
        self.assertEqual(books.book_error(((True, 1),)), ("kind", 0))
        self.assertEqual(books.book_error(((1, True),)), ("kind", 0))
        self.assertEqual(books.record_error(CALM, (1, False)), ("number", 1))
        self.assertEqual(books.row_error(CALM, (0, True)), ("place", 1))
        self.assertEqual(books.row_error(CALM, (False,)), ("place", 0))
        self.assertEqual(books.pieces_error(CALM, (((0,), True),)), ("piece", 0))
        self.assertEqual(books.pieces_error(CALM, (((False,), 1),)), ("piece", 0))

    def test_each_function_is_defined_in_its_file(self):
        for name in ("book_error", "record_error", "row_error", "pieces_error"):
            self.assertEqual(getattr(books, name).__module__, "fallingfields.books")
        for name in ("book_text", "read_book", "record_text", "read_record"):
            self.assertEqual(getattr(booktexts, name).__module__, "fallingfields.booktexts")


if __name__ == "__main__":
    unittest.main()

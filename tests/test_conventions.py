import copy
import unittest

from fallingfields import books, booktexts, laying, orders, pieces, rooms
from samples import CALM, SIX, TAIL, TRIO, answer, any_values, some_books, some_records, some_rows

RIGHT = (CALM, (2, 1), (0, 1, 1), (((0, 1), 3), ((1,), 10 ** 30)), "6/4 3/2", "3 0")
OF_VALUE = {"book_error": books, "read_book": booktexts}
OF_BOOK_AND_VALUE = {"record_error": books, "row_error": books, "pieces_error": books, "read_record": booktexts}
ARGUMENTS = {
    laying: {"laid": "book row", "row_whole": "book row", "row_padding": "book row", "row_record": "book row"},
    pieces: {"pieces_whole": "book pieces", "pieces_record": "book pieces"},
    rooms: {
        "rooms": "book", "lacks": "book", "unit": "book", "record_unit": "book record", "rooms_whole": "book record",
    },
    orders: {"order_whole": "book order record", "falling_orders": "book"},
}


def values():
    return any_values() + list(RIGHT)


def calls():
    """Return pairs of one call by place and the same call by name, both of a value."""
    pairs = []
    for name, module in OF_VALUE.items():
        function = getattr(module, name)
        pairs.append((lambda v, f=function: f(v), lambda v, f=function: f(value=v)))
    for name, module in OF_BOOK_AND_VALUE.items():
        function = getattr(module, name)
        pairs.append((lambda v, f=function: f(CALM, v), lambda v, f=function: f(value=v, book=CALM)))
    return pairs


def sample_arguments():
    """Return dicts of arguments by their names, for books of all sizes, newly made."""
    found = []
    for at, book in enumerate([CALM, SIX, TAIL, TRIO, CALM * 3] + some_books(20, 6, 31)):
        rows = some_rows(book, 3, 12, at)
        for record in some_records(book, 2, 9, at) + some_records(book, 1, 10 ** 30, at):
            found.append({
                "book": book,
                "row": rows[0],
                "pieces": tuple((row, at * 10 ** 28 + 1) for row in rows),
                "record": record,
                "order": tuple(range(len(book)))[::-1],
            })
    return found


def calls_by_name():
    """Return triples of a function, the names of its arguments, and a dict of all that it may be handed."""
    return [
        (getattr(module, name), names.split(), arguments)
        for arguments in sample_arguments()
        for module, table in ARGUMENTS.items()
        for name, names in table.items()
    ]


class OfBooksTest(unittest.TestCase):
    """Calls whose arguments are all as described: books, rows, pieces, records, orders."""

    def test_arguments_by_place_and_by_name(self):
        for function, names, arguments in calls_by_name():
            with self.subTest(function.__name__, arguments=arguments):
                by_place = repr(function(*[arguments[name] for name in names]))
                for ordered in (names, names[::-1]):
                    self.assertEqual(repr(function(**{name: arguments[name] for name in ordered})), by_place)

    def test_nothing_that_is_handed_in_is_changed(self):
        for function, names, arguments in calls_by_name():
            ahead = repr(copy.deepcopy(arguments))
            function(*[arguments[name] for name in names])
            self.assertEqual(repr(arguments), ahead)

    def test_equal_calls_tell_equal_things_behind_calls_for_other_books(self):
        told = [repr(function(*[arguments[name] for name in names])) for function, names, arguments in calls_by_name()]
        again = [
            repr(function(*[copy.deepcopy(arguments[name]) for name in names]))
            for function, names, arguments in reversed(calls_by_name())
        ]
        self.assertEqual(told, again[::-1])

    def test_what_is_told_is_integers_and_tuples_of_these(self):
        for function, names, arguments in calls_by_name():
            self.check_plain(function(*[arguments[name] for name in names]))

    def check_plain(self, told):
        if type(told) is tuple:
            for item in told:
                self.check_plain(item)
        else:
            self.assertIs(type(told), int)

    def test_each_function_is_defined_in_its_file(self):
        for module, table in ARGUMENTS.items():
            for name in table:
                self.assertEqual(getattr(module, name).__module__, module.__name__)


class ConventionsTest(unittest.TestCase):
    def test_arguments_by_place_and_by_name(self):
        for by_place, by_name in calls():
            for value in values():
                with self.subTest(value=repr(value)[:80]):
                    self.assertEqual(answer(lambda: by_place(value)), answer(lambda: by_name(value)))
        self.assertEqual(booktexts.book_text(book=CALM), booktexts.book_text(CALM))
        self.assertEqual(booktexts.record_text(record=(3, 0)), booktexts.record_text((3, 0)))

    def test_equal_calls_tell_equal_things(self):
        for call, _ in calls():
            for value in values():
                with self.subTest(value=repr(value)[:80]):
                    self.assertEqual(answer(lambda: call(value)), answer(lambda: call(copy.deepcopy(value))))

    def test_what_is_handed_in_is_never_changed(self):
        for call, _ in calls():
            for value in values():
                with self.subTest(value=repr(value)[:80]):
                    ahead = repr(copy.deepcopy(value))
                    answer(lambda: call(value))
                    self.assertEqual(repr(value), ahead)

    def test_bools_are_no_integers(self):
        self.assertEqual(books.book_error(((True, 1),)), ("kind", 0))
        self.assertEqual(books.book_error(((1, True),)), ("kind", 0))
        self.assertEqual(books.record_error(CALM, (1, False)), ("number", 1))
        self.assertEqual(books.row_error(CALM, (0, True)), ("place", 1))
        self.assertEqual(books.row_error(CALM, (False,)), ("place", 0))
        self.assertEqual(books.pieces_error(CALM, (((0,), True),)), ("piece", 0))
        self.assertEqual(books.pieces_error(CALM, (((False,), 1),)), ("piece", 0))

    def test_each_function_is_defined_in_its_file(self):
        for name in ("book_error", "record_error", "row_error", "pieces_error"):
            self.assertEqual(getattr(books, name).__module__, "fallingfields.books")
        for name in ("book_text", "read_book", "record_text", "read_record"):
            self.assertEqual(getattr(booktexts, name).__module__, "fallingfields.booktexts")


if __name__ == "__main__":
    unittest.main()

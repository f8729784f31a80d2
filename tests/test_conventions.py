import copy
import unittest

from fallingfields import (
    books, booktexts, comparing, errors, floors, laying, leasts, levels, mends, orders, peaks, pieces, rooms, things,
)
from samples import (
    CALM, SIX, TAIL, THIN, TRIO, answer, any_values, some_books, some_level_books, some_records, some_rows,
)

RIGHT = (
    CALM, (2, 1), (0, 1, 1), (((0, 1), 3), ((1,), 10 ** 30)), "6/4 3/2", "3 0", ((2, 4), (((0, 1, 1), 2),)),
)
OF_VALUE = {"book_error": books, "read_book": booktexts}
OF_BOOK_AND_VALUE = {
    "record_error": books, "row_error": books, "pieces_error": books, "read_record": booktexts, "beaten_holds": levels,
}
ARGUMENTS = {
    laying: {"laid": "book row", "row_whole": "book row", "row_padding": "book row", "row_record": "book row"},
    pieces: {"pieces_whole": "book pieces", "pieces_record": "book pieces"},
    rooms: {
        "rooms": "book", "lacks": "book", "unit": "book", "record_unit": "book record", "rooms_whole": "book record",
    },
    orders: {"order_whole": "book order record", "falling_orders": "book"},
    levels: {"level_error": "book", "beaten": "book", "beaten_holds": "book value"},
    peaks: {"peak_error": "book order", "peak_record": "book order", "greatest_excess": "book order"},
    floors: {
        "shares": "book", "floor_whole": "book record", "needed": "book record", "floor_pieces": "book record",
    },
    leasts: {"least_whole": "book record", "least_row": "book record"},
    things: {"array_kind": "kind many", "record_kind": "book record", "keeps_level": "book kind"},
    mends: {"rounded": "book lot", "least_lot": "book", "level_lots": "book"},
    comparing: {"larger_record": "one other"},
}


def values():
    return any_values() + list(RIGHT)


def calls():
    """Return pairs of one call by place and the same call by name, both of a value."""
    pairs = []
    for name, module in OF_VALUE.items():
        function = getattr(module, name)
        pairs.append((lambda v, f=function: f(v), lambda v, f=function: f(value=v)))
    for name, module in OF_BOOK_AND_VALUE.items():
        function = getattr(module, name)
        pairs.append((lambda v, f=function: f(THIN, v), lambda v, f=function: f(value=v, book=THIN)))
    return pairs


def sample_arguments():
    """Return dicts of arguments by their names, for books of all sizes, newly made."""
    found = []
    books_of_all = [CALM, THIN, SIX, TAIL, TRIO, CALM * 3] + some_books(20, 6, 31) + some_level_books(9, 4, 32)
    for at, book in enumerate(books_of_all):
        rows = some_rows(book, 3, 12, at)
        for record in some_records(book, 2, 9, at) + some_records(book, 1, 10 ** 30, at):
            found.append({
                "book": book,
                "row": rows[0],
                "pieces": tuple((row, at * 10 ** 28 + 1) for row in rows),
                "record": record,
                "order": tuple(range(len(book)))[::-1] if at % 2 == 0 else tuple(range(len(book))),
                "kind": book[at % len(book)],
                "many": max(record),
                "lot": tuple(range(at % 2, len(book), 2)),
                "one": book,
                "other": books_of_all[at - at % 3] if at % 2 == 0 else book[::-1],
                "value": (record, tuple(((place,), number) for place, number in enumerate(record) if number > 0)),
            })
    return found


def calls_by_name():
    """Return triples of a function, the names of its arguments, and a dict of all that it may be handed."""
    return [
        (getattr(module, name), names.split(), arguments)
        for arguments in sample_arguments()
        for module, table in ARGUMENTS.items()
        for name, names in table.items()
    ]


def answer_by_place(function, names, arguments):
    """Return what function tells of these arguments, handed in by place."""
    return answer(lambda: function(*[arguments[name] for name in names]))


class OfBooksTest(unittest.TestCase):
    """Calls whose arguments are all as described: books, rows, pieces, records, orders."""

    def test_arguments_by_place_and_by_name(self):
        for function, names, arguments in calls_by_name():
            with self.subTest(function.__name__, arguments=arguments):
                by_place = answer_by_place(function, names, arguments)
                for ordered in (names, names[::-1]):
                    by_name = {name: arguments[name] for name in ordered}
                    self.assertEqual(answer(lambda: function(**by_name)), by_place)

    def test_nothing_that_is_handed_in_is_changed(self):
        for function, names, arguments in calls_by_name():
            ahead = repr(copy.deepcopy(arguments))
            answer_by_place(function, names, arguments)
            self.assertEqual(repr(arguments), ahead)

    def test_equal_calls_tell_equal_things_behind_calls_for_other_books(self):
        told = [answer_by_place(*call) for call in calls_by_name()]
        again = [
            answer_by_place(function, names, copy.deepcopy(arguments))
            for function, names, arguments in reversed(calls_by_name())
        ]
        self.assertEqual(told, again[::-1])

    def test_each_function_has_told_something(self):
        returned = {call[0] for call in calls_by_name() if answer_by_place(*call)[0] == "returned"}
        for function, _, _ in calls_by_name():
            self.assertIn(function, returned)

    def test_what_is_told_is_integers_and_tuples_of_these(self):
        for function, names, arguments in calls_by_name():
            try:
                told = function(*[arguments[name] for name in names])
            except errors.FieldsError as error:
                told = tuple(vars(error).values())
            self.check_plain(told)

    def check_plain(self, told):
        if type(told) is tuple:
            for item in told:
                self.check_plain(item)
        elif told is not None:
            self.assertIn(type(told), (int, bool))

    def test_each_function_is_defined_in_its_file(self):
        for module, table in ARGUMENTS.items():
            for name in table:
                self.assertEqual(getattr(module, name).__module__, module.__name__)


class ConventionsTest(unittest.TestCase):
    def test_arguments_by_place_and_by_name(self):
        for by_place, by_name in calls():
            for value in values():
                with self.subTest(value=repr(value)[:80]):
                    self.assertEqual(answer(lambda: by_place(value)), answer(lambda: by_name(value)))
        self.assertEqual(booktexts.book_text(book=CALM), booktexts.book_text(CALM))
        self.assertEqual(booktexts.record_text(record=(3, 0)), booktexts.record_text((3, 0)))

    def test_equal_calls_tell_equal_things(self):
        for call, _ in calls():
            for value in values():
                with self.subTest(value=repr(value)[:80]):
                    self.assertEqual(answer(lambda: call(value)), answer(lambda: call(copy.deepcopy(value))))

    def test_what_is_handed_in_is_never_changed(self):
        for call, _ in calls():
            for value in values():
                with self.subTest(value=repr(value)[:80]):
                    ahead = repr(copy.deepcopy(value))
                    answer(lambda: call(value))
                    self.assertEqual(repr(value), ahead)

    def test_bools_are_no_integers(self):
        self.assertEqual(books.book_error(((True, 1),)), ("kind", 0))
        self.assertEqual(books.book_error(((1, True),)), ("kind", 0))
        self.assertEqual(books.record_error(CALM, (1, False)), ("number", 1))
        self.assertEqual(books.row_error(CALM, (0, True)), ("place", 1))
        self.assertEqual(books.row_error(CALM, (False,)), ("place", 0))
        self.assertEqual(books.pieces_error(CALM, (((0,), True),)), ("piece", 0))
        self.assertEqual(books.pieces_error(CALM, (((False,), 1),)), ("piece", 0))

    def test_each_function_is_defined_in_its_file(self):
        for name in ("book_error", "record_error", "row_error", "pieces_error"):
            self.assertEqual(getattr(books, name).__module__, "fallingfields.books")
        for name in ("book_text", "read_book", "record_text", "read_record"):
            self.assertEqual(getattr(booktexts, name).__module__, "fallingfields.booktexts")


if __name__ == "__main__":
    unittest.main()

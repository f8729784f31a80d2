import unittest

from fallingfields.books import book_error, pieces_error, record_error, row_error
from fallingfields.errors import Level
from samples import CALM, HUGE, SIX, THIN, any_values, nested

TOP = 10 ** 30
LONG = 100


class Checks(unittest.TestCase):
    def tells(self, told, expected):
        """Compare by repr, as True and 1 are equal for ==, but not here."""
        self.assertEqual(repr(told), repr(expected))

    def tell_all(self, call, cases):
        for value, expected in cases:
            with self.subTest(value=repr(value)[:80]):
                self.tells(call(value), expected)


class BookErrorTest(Checks):
    def test_examples(self):
        values = (CALM, ((10 ** 30, 64),), CALM * 3, CALM * 3 + THIN, (), list(CALM), None)
        self.tells([book_error(value) for value in values], [None, None, None, "form", "form", "form", "form"])
        kinds = ((0, 1), (10 ** 30 + 1, 1), (6, 3), (6, 128), (6, True), (6,), [6, 4])
        self.tells([book_error(((6, 4), kind)) for kind in kinds], [("kind", 1)] * 7)

    def test_books(self):
        alignments = [1, 2, 4, 8, 16, 32, 64]
        cases = [((((size, alignment),)), None) for alignment in alignments for size in (1, 2, TOP - 1, TOP)]
        self.tell_all(book_error, cases)
        self.tell_all(book_error, [(SIX[:many], None) for many in range(1, 7)] + [(((1, 1),) * 6, None)])

    def test_seven_kinds_are_no_book(self):
        self.tell_all(book_error, [(SIX + ((1, 1),), "form"), (((0, 0),) * 7, "form"), (((1, 1),) * 4000, "form")])

    def test_values_of_all_kinds(self):
        for value in any_values():
            with self.subTest(value=repr(value)[:80]):
                told = book_error(value)
                right = ("kind", 0) if isinstance(value, tuple) and 1 <= len(value) <= 6 else "form"
                self.tells(told, right)

    def test_wrong_kinds(self):
        wrong = [
            (0, 1), (-1, 1), (TOP + 1, 1), (HUGE, 1), (True, 1), (False, 1), ("6", 4), (None, 4), ((6,), 4), ([6], 4),
            (6, 0), (6, 3), (6, -4), (6, 5), (6, 12), (6, 63), (6, 128), (6, HUGE), (6, True), (6, False), (6, None),
            (6, "4"), (6, (4,)), (6, [4]), (6,), (), (6, 4, 4), [6, 4], {6: 4, 4: 6}, "64", 6, None, True, nested(20),
        ]
        self.tell_all(lambda kind: book_error((kind,)), [(kind, ("kind", 0)) for kind in wrong])
        self.tell_all(lambda kind: book_error(SIX[:5] + (kind,)), [(kind, ("kind", 5)) for kind in wrong])

    def test_first_wrong_kind_is_told(self):
        self.tells(book_error(((6, 4), (6, 3), (0, 1))), ("kind", 1))
        self.tells(book_error(((0, 1), (6, 3))), ("kind", 0))


class RecordErrorTest(Checks):
    def test_examples(self):
        values = ((2, 1), (0, 10 ** 30), (2,), [2, 1], (2, -1), (True, 0), (0, 10 ** 30 + 1), (0, 0))
        told = [None, None, "form", "form", ("number", 1), ("number", 0), ("number", 1), "empty"]
        self.tells([record_error(CALM, value) for value in values], told)

    def test_records(self):
        for many in range(1, 7):
            for record in ((1,) * many, (TOP,) * many, (0,) * (many - 1) + (1,), (1,) + (0,) * (many - 1)):
                with self.subTest(record=record):
                    self.tells(record_error(SIX[:many], record), None)

    def test_all_noughts(self):
        for many in range(1, 7):
            self.tells(record_error(SIX[:many], (0,) * many), "empty")

    def test_other_lengths(self):
        for many in range(1, 7):
            for length in range(9):
                if length != many:
                    self.tells(record_error(SIX[:many], (1,) * length), "form")
                    self.tells(record_error(SIX[:many], (None,) * length), "form")

    def test_wrong_numbers(self):
        wrong = [-1, TOP + 1, HUGE, -HUGE, True, False, None, "1", (1,), [1], {}, nested(19)]
        self.tell_all(lambda number: record_error(CALM, (number, 1)), [(number, ("number", 0)) for number in wrong])
        self.tell_all(lambda number: record_error(CALM, (0, number)), [(number, ("number", 1)) for number in wrong])
        self.tell_all(lambda number: record_error(SIX, (0,) * 5 + (number,)), [(n, ("number", 5)) for n in wrong])

    def test_first_of_two_wrong_numbers_is_told(self):
        self.tells(record_error(SIX, (0, 1, -1, 2, True, 3)), ("number", 2))
        self.tells(record_error(CALM, (TOP + 1, -1)), ("number", 0))
        self.tells(record_error(CALM, (-1, 1)), ("number", 0))

    def test_values_of_all_kinds(self):
        for value in any_values():
            with self.subTest(value=repr(value)[:80]):
                told = record_error(CALM, value)
                right = ("number", 0) if isinstance(value, tuple) and len(value) == 2 else "form"
                self.tells(told, right)


class RowErrorTest(Checks):
    def test_examples(self):
        values = ((0, 1, 1), (1,) * 100, (1,) * 101, (), (0, 2), (0, -1), (True,), "01")
        told = [None, None, "form", "form", ("place", 1), ("place", 1), ("place", 0), "form"]
        self.tells([row_error(CALM, value) for value in values], told)

    def test_rows(self):
        for many in range(1, 7):
            for row in (tuple(range(many)), (0,), (many - 1,), (0, many - 1) * 50):
                with self.subTest(many=many, row=row):
                    self.tells(row_error(SIX[:many], row), None)

    def test_too_many_fields(self):
        self.tells(row_error(CALM, (0,) * 101), "form")
        self.tells(row_error(CALM, (None,) * 101), "form")

    def test_wrong_places(self):
        for many in range(1, 7):
            for place in (many, -1, HUGE, True, False, None, "0", (0,), [0], {}, nested(19)):
                with self.subTest(many=many, place=repr(place)[:40]):
                    self.tells(row_error(SIX[:many], (place,)), ("place", 0))
                    self.tells(row_error(SIX[:many], (0,) * 99 + (place,)), ("place", 99))

    def test_first_wrong_place_is_told(self):
        self.tells(row_error(CALM, (0, 1, 2, -1)), ("place", 2))

    def test_values_of_all_kinds(self):
        for value in any_values():
            with self.subTest(value=repr(value)[:80]):
                told = row_error(CALM, value)
                right = ("place", 0) if isinstance(value, tuple) and 1 <= len(value) <= 100 else "form"
                self.tells(told, right)


class PiecesErrorTest(Checks):
    def test_examples(self):
        values = (
            (((0, 1), 3),), (((0,), 1),) * 20, (((0,), 1),) * 21, (), ((0, 1), 3), (((0,), 1), ((), 1)),
            (((0,), 0),), [((0,), 1)],
        )
        told = [None, None, "form", "form", ("piece", 0), ("piece", 1), ("piece", 0), "form"]
        self.tells([pieces_error(CALM, value) for value in values], told)

    def test_pieces(self):
        for times in (1, 2, TOP - 1, TOP):
            self.tells(pieces_error(CALM, (((0, 1, 1), times),)), None)
        self.tells(pieces_error(SIX, tuple(((place % 6,) * LONG, place + 1) for place in range(20))), None)

    def test_too_many_pieces(self):
        self.tells(pieces_error(CALM, (None,) * 21), "form")

    def test_wrong_pieces(self):
        row = (0, 1)
        wrong = [
            (row, 0), (row, -1), (row, TOP + 1), (row, HUGE), (row, True), (row, None), (row, "1"), (row, (1,)),
            ((), 1), ((0,) * 101, 1), ((2,), 1), ((-1,), 1), ((True,), 1), ([0, 1], 1), ("01", 1), (None, 1), (0, 1),
            (row,), (), (row, 1, 1), [row, 1], {0: 1, 1: 0}, "ab", None, 0, True, nested(19), (1, row),
        ]
        self.tell_all(lambda piece: pieces_error(CALM, (piece,)), [(piece, ("piece", 0)) for piece in wrong])
        ahead = ((row, 1),) * 19
        self.tell_all(lambda piece: pieces_error(CALM, ahead + (piece,)), [(piece, ("piece", 19)) for piece in wrong])

    def test_first_wrong_piece_is_told(self):
        self.tells(pieces_error(CALM, (((0,), 1), ((2,), 1), ((0,), 0))), ("piece", 1))

    def test_values_of_all_kinds(self):
        for value in any_values():
            with self.subTest(value=repr(value)[:80]):
                told = pieces_error(CALM, value)
                right = ("piece", 0) if isinstance(value, tuple) and 1 <= len(value) <= 20 else "form"
                self.tells(told, right)


class WhatErrorsTellTest(Checks):
    def test_errors_of_this_package_are_values_too(self):
        for call in (book_error, *[lambda value, f=f: f(CALM, value) for f in (record_error, row_error, pieces_error)]):
            self.tells(call(Level()), "form")


if __name__ == "__main__":
    unittest.main()

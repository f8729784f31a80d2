import itertools
import unittest

from fallingfields.books import record_error
from fallingfields.laying import laid, row_padding, row_record, row_whole
from samples import (
    ALIGNMENTS, PAIR, SIX, TAIL, TOP, sizes_about, some_books, some_rows, spans_by_hand, whole_by_hand,
)


def books_and_rows():
    """Return pairs of a book and a row of it, many and unlike."""
    pairs = []
    for at, book in enumerate(some_books(150, 6, 1)):
        pairs += [(book, row) for row in some_rows(book, 4, 12, at) + some_rows(book, 1, 100, -at)]
        pairs += [(book, tuple(range(len(book)))), (book, tuple(range(len(book)))[::-1])]
    return pairs


class LayingTest(unittest.TestCase):
    def check_row(self, book, row):
        """Compare all that is told of row with a reckoning field by field."""
        with self.subTest(book=book, row=row):
            spans = tuple(spans_by_hand(book, row))
            whole = whole_by_hand(book, row)
            record = tuple(sum(1 for other in row if other == place) for place in range(len(book)))
            # By repr, as True and 1 are equal for ==, but not here.
            self.assertEqual(repr(laid(book, row)), repr(spans))
            self.assertEqual(repr(row_whole(book, row)), repr(whole))
            self.assertEqual(repr(row_padding(book, row)), repr(whole - sum(end - begin for begin, end in spans)))
            self.assertEqual(repr(row_record(book, row)), repr(record))

    def test_examples(self):
        self.assertEqual(laid(PAIR, (0, 1, 0)), ((0, 6), (6, 9), (12, 18)))
        self.assertEqual(row_whole(PAIR, (0, 1, 0)), 20)
        self.assertEqual(row_padding(PAIR, (0, 1, 0)), 5)
        self.assertEqual(row_record(PAIR, (0, 1, 0)), (2, 1))
        self.assertEqual(laid(PAIR, (1, 0, 0)), ((0, 3), (4, 10), (12, 18)))
        self.assertEqual([row_whole(PAIR, row) for row in ((1, 0, 0), (1, 1, 0), (1,))], [20, 16, 4])
        self.assertEqual(row_padding(PAIR, (1,)), 1)
        self.assertEqual(laid(TAIL, (0, 2, 1, 0)), ((0, 9), (10, 12), (12, 13), (16, 25)))
        self.assertEqual([row_whole(TAIL, row) for row in ((0, 2, 1, 0), (1, 0), (0, 1))], [32, 24, 16])
        self.assertEqual(row_record(TAIL, (2, 2, 1)), (0, 1, 2))
        self.assertEqual(row_whole(((TOP, 64), (1, 2)), (1, 0, 1)), TOP + 128)

    def test_one_field(self):
        for alignment in ALIGNMENTS:
            for size in sizes_about(alignment):
                book = ((size, alignment),)
                self.check_row(book, (0,))
                self.assertEqual(laid(book, (0,)), ((0, size),))
                self.assertLess(row_padding(book, (0,)), alignment)

    def test_one_kind_alone(self):
        for alignment in ALIGNMENTS:
            for size in sizes_about(alignment):
                for many in (2, 3, 99, 100):
                    self.check_row(((size, alignment),), (0,) * many)

    def test_one_kind_alone_of_a_book_of_more(self):
        for place in range(6):
            for many in (1, 2, 100):
                self.check_row(SIX, (place,) * many)
        self.assertEqual(row_whole(SIX, (0,) * 100), 100)
        self.assertEqual(row_whole(SIX, (1,) * 100), 200)
        self.assertEqual(row_whole(SIX, (2,) * 100), 400)

    def test_two_fields_of_each_two_alignments(self):
        for first, second in itertools.product(ALIGNMENTS, ALIGNMENTS):
            for size, other in itertools.product(sizes_about(first), (1, second - 1, second, second + 1, TOP)):
                book = ((size, first), (max(other, 1), second))
                self.check_row(book, (0, 1))
                self.check_row(book, (1, 0))

    def test_all_six_kinds(self):
        for row in itertools.permutations(range(6)):
            self.check_row(SIX, row)
            self.check_row(tuple((5, alignment) for alignment in ALIGNMENTS[1:]), row)

    def test_hundred_fields(self):
        self.check_row(SIX, (0, 1, 2, 3, 4, 5, 4, 3, 2, 1) * 10)
        self.check_row(SIX, (3, 0) * 50)
        self.check_row(((TOP, 64), (1, 1)), (1, 0) * 50)
        self.assertEqual(row_whole(((TOP, 64), (1, 1)), (1, 0) * 50), 50 * TOP + 50 * 64)
        self.assertEqual(row_padding(((TOP, 64), (1, 1)), (1, 0) * 50), 50 * 63)

    def test_many_books_and_rows(self):
        for book, row in books_and_rows():
            self.check_row(book, row)

    def test_rounded_up_to_the_fields_that_are_there_alone(self):
        book = ((1, 64), (3, 2), (1, 1))
        self.assertEqual([row_whole(book, row) for row in ((1,), (2,), (1, 2), (2, 1), (2, 0))], [4, 1, 4, 6, 128])


class WhatHoldsTest(unittest.TestCase):
    """What [B4] tells of rows."""

    def test_laid_from_a_later_place_on(self):
        for book, row in books_and_rows():
            if len(book) == 6:
                continue
            spans = laid(book, row)
            greatest = max(book[place][1] for place in row)
            for start in (1, 2, 3, 7, 31, 32, 33, 63, 64, 65, 3 * greatest, TOP):
                later = laid(book + ((start, 1),), (len(book),) + row)[1:]
                with self.subTest(book=book, row=row, start=start):
                    if start % greatest == 0:
                        self.assertEqual(later, tuple((begin + start, end + start) for begin, end in spans))
                    self.assertTrue(all(new[0] >= old[0] for new, old in zip(later, spans)))

    def test_whole_is_a_multiple_and_no_less_than_all_sizes(self):
        for book, row in books_and_rows():
            with self.subTest(book=book, row=row):
                self.assertEqual(row_whole(book, row) % max(book[place][1] for place in row), 0)
                self.assertGreaterEqual(row_whole(book, row), sum(book[place][0] for place in row))
                self.assertGreaterEqual(row_padding(book, row), 0)

    def test_a_field_more_never_makes_a_whole_less(self):
        for book, row in books_and_rows():
            whole = row_whole(book, row)
            for spot in {0, len(row) // 2, len(row)}:
                for place in range(len(book)):
                    with self.subTest(book=book, row=row, spot=spot, place=place):
                        self.assertGreaterEqual(row_whole(book, row[:spot] + (place,) + row[spot:]), whole)

    def test_a_greater_size_or_alignment_never_makes_a_whole_less(self):
        for book, row in books_and_rows():
            whole = row_whole(book, row)
            for place, (size, alignment) in enumerate(book):
                kinds = [(size + more, alignment) for more in (1, 2, 5, 64)]
                kinds += [(size, greater) for greater in ALIGNMENTS if greater > alignment]
                for kind in kinds:
                    with self.subTest(book=book, row=row, place=place, kind=kind):
                        other = book[:place] + (kind,) + book[place + 1:]
                        self.assertGreaterEqual(row_whole(other, row), whole)

    def test_the_record_of_a_row_is_a_record(self):
        for book, row in books_and_rows():
            self.assertIsNone(record_error(book, row_record(book, row)))
            self.assertEqual(sum(row_record(book, row)), len(row))


if __name__ == "__main__":
    unittest.main()

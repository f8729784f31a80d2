import random
import unittest

from fallingfields.laying import row_record, row_whole
from fallingfields.pieces import pieces_record, pieces_whole
from samples import (
    ALIGNMENTS, PAIR, SIX, TAIL, TOP, pieces_whole_by_doubling, sizes_about, some_books, some_rows, whole_by_hand,
    written_out,
)

FEW_TIMES = (1, 2, 3, 31, 32, 33, 63, 64, 65, 66, 127, 128, 129)
MANY_TIMES = (130, 10 ** 9, 2 ** 64 + 1, TOP - 1, TOP)


def some_pieces(book, most_pieces, longest, times, seed):
    """Return pieces of book with these numbers of times, the same for the same seed."""
    numbers = random.Random(seed)
    rows = some_rows(book, numbers.randint(1, most_pieces), longest, seed)
    return tuple((row, numbers.choice(times)) for row in rows)


class PiecesTest(unittest.TestCase):
    def check_written_out(self, book, pieces):
        """Compare what is told of pieces with what is told of them as one long row."""
        with self.subTest(book=book, pieces=pieces):
            row = written_out(pieces)
            whole = pieces_whole(book, pieces)
            self.assertEqual(repr(whole), repr(row_whole(book, row)))
            self.assertEqual(whole, whole_by_hand(book, row))
            self.assertEqual(repr(pieces_record(book, pieces)), repr(row_record(book, row)))

    def check_doubled(self, book, pieces):
        """Compare the whole of pieces with what comes of doubling rows."""
        with self.subTest(book=book, pieces=pieces):
            self.assertEqual(repr(pieces_whole(book, pieces)), repr(pieces_whole_by_doubling(book, pieces)))

    def test_examples(self):
        self.assertEqual(pieces_whole(PAIR, (((0, 1), 2),)), 24)
        self.assertEqual(pieces_whole(PAIR, (((1,), 3), ((0,), 1))), 20)
        self.assertEqual(pieces_record(PAIR, (((1,), 3), ((0,), 1))), (1, 3))
        self.assertEqual(pieces_whole(PAIR, (((0, 1), TOP),)), 12 * TOP)
        self.assertEqual(pieces_record(PAIR, (((0, 1, 0), TOP),)), (2 * TOP, TOP))
        self.assertEqual(pieces_whole(TAIL, (((0,), TOP), ((1, 2), 1), ((1,), 2))), 16 * TOP)
        self.assertEqual(pieces_whole(TAIL, (((1, 1, 0), 2),)), 40)

    def test_few_times_written_out(self):
        for times in FEW_TIMES:
            for row in ((0,), (1,), (2,), (0, 1), (1, 0), (1, 1, 0), (0, 2, 1), (2, 1, 1)):
                self.check_written_out(TAIL, ((row, times),))
                self.check_written_out(TAIL, (((1,), 1), (row, times), ((2,), 1)))

    def test_one_field_of_each_alignment_again_and_again(self):
        for alignment in ALIGNMENTS:
            for size in sizes_about(alignment):
                for times in FEW_TIMES:
                    self.check_written_out(((size, alignment),), (((0,), times),))
                for times in MANY_TIMES:
                    room = size + -size % alignment
                    self.assertEqual(pieces_whole(((size, alignment),), (((0,), times),)), times * room)

    def test_rows_that_begin_at_each_place_modulo_64(self):
        for size in range(1, 66):
            book = ((size, 1), (1, 64), (5, 8), (3, 2))
            for row in ((0,), (3,), (2, 3), (3, 2), (3, 2, 3), (0, 2), (2, 0), (1, 0), (0, 1)):
                for times in (1, 2, 63, 64, 65, 66):
                    self.check_written_out(book, (((1, 0), 1), (row, times), ((3,), 1)))
                for times in MANY_TIMES:
                    self.check_doubled(book, (((1, 0), 1), (row, times), ((3,), 1)))

    def test_many_books_and_pieces_written_out(self):
        for at, book in enumerate(some_books(200, 6, 2)):
            self.check_written_out(book, some_pieces(book, 4, 5, (1, 2, 3, 7, 63, 64, 65, 66), at))

    def test_many_books_and_pieces_doubled(self):
        for at, book in enumerate(some_books(150, 6, 3)):
            self.check_doubled(book, some_pieces(book, 4, 6, FEW_TIMES + MANY_TIMES, at))

    def test_twenty_pieces(self):
        for at, book in enumerate(some_books(12, 6, 4)):
            numbers = random.Random(at)
            few = tuple((row, numbers.choice((1, 2, 5, 65))) for row in some_rows(book, 20, 4, at))
            self.check_written_out(book, few)
            self.check_doubled(book, tuple((row, TOP - len(row)) for row in some_rows(book, 20, 6, at)))

    def test_twenty_rows_of_a_hundred_fields_as_often_as_may_be(self):
        for book in [SIX] + some_books(3, 6, 5):
            pieces = tuple((row * 100, TOP) for row in some_rows(book, 20, 1, 5))
            pieces = pieces[:10] + tuple((row, TOP) for row in some_rows(book, 10, 100, 6))
            self.assertEqual(len(pieces), 20)
            self.check_doubled(book, pieces)

    def test_numbers_above_the_bound_of_records(self):
        pieces = (((0,) * 100, TOP),) * 20
        self.assertEqual(pieces_record(PAIR, pieces), (2000 * TOP, 0))
        self.assertEqual(pieces_record(PAIR, (((1, 0, 1), TOP), ((1,), 1))), (TOP, 2 * TOP + 1))
        self.assertEqual(pieces_whole(((TOP, 64),), pieces), 2000 * TOP * TOP)

    def test_rounded_up_to_the_fields_that_are_there_alone(self):
        book = ((1, 64), (3, 2), (1, 1))
        self.assertEqual(pieces_whole(book, (((2,), 3),)), 3)
        self.assertEqual(pieces_whole(book, (((1,), 1), ((2,), 3))), 6)
        self.assertEqual(pieces_whole(book, (((2,), 2), ((1,), 1))), 6)
        self.assertEqual(pieces_whole(book, (((0,), 1), ((2,), 3), ((1,), 1))), 64)
        self.assertEqual(pieces_whole(book, (((2,), 3), ((0,), 1), ((1,), 1))), 128)


class WhatHoldsTest(unittest.TestCase):
    """What [B3] and [B4] tell of pieces and of rows."""

    def test_one_piece_once_is_its_row(self):
        for at, book in enumerate(some_books(150, 6, 6)):
            for row in some_rows(book, 3, 100, at):
                with self.subTest(book=book, row=row):
                    self.assertEqual(pieces_whole(book, ((row, 1),)), row_whole(book, row))
                    self.assertEqual(pieces_record(book, ((row, 1),)), row_record(book, row))

    def test_a_piece_parted_into_two_tells_the_same(self):
        for at, book in enumerate(some_books(80, 6, 7)):
            ahead, row, behind = some_rows(book, 3, 8, at)
            for times in (2, 3, 63, 64, 65, 66, 129, TOP):
                for part in {1, times // 3 + 1, times // 2, times - 1}:
                    whole = ((ahead, 3), (row, times), (behind, TOP - 5))
                    parted = ((ahead, 3), (row, part), (row, times - part), (behind, TOP - 5))
                    with self.subTest(book=book, pieces=parted):
                        self.assertEqual(pieces_whole(book, parted), pieces_whole(book, whole))
                        self.assertEqual(pieces_record(book, parted), pieces_record(book, whole))

    def test_the_record_is_the_sum_over_all_pieces(self):
        for at, book in enumerate(some_books(80, 6, 8)):
            pieces = some_pieces(book, 20, 100, FEW_TIMES + MANY_TIMES, at)
            record = [0] * len(book)
            for row, times in pieces:
                record = [many + times * number for many, number in zip(record, row_record(book, row))]
            with self.subTest(book=book, pieces=pieces):
                self.assertEqual(repr(pieces_record(book, pieces)), repr(tuple(record)))

    def test_whole_is_a_multiple_and_no_less_than_all_sizes(self):
        for at, book in enumerate(some_books(80, 6, 9)):
            pieces = some_pieces(book, 6, 10, FEW_TIMES + MANY_TIMES, at)
            whole = pieces_whole(book, pieces)
            sizes = sum(number * size for number, (size, _) in zip(pieces_record(book, pieces), book))
            with self.subTest(book=book, pieces=pieces):
                self.assertEqual(whole % max(book[place][1] for row, _ in pieces for place in row), 0)
                self.assertGreaterEqual(whole, sizes)


if __name__ == "__main__":
    unittest.main()

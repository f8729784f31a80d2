import itertools
import unittest

from fallingfields.bounds import MAX_ROW, MAX_STATES
from fallingfields.books import row_error
from fallingfields.errors import TooMany
from fallingfields.floors import floor_whole
from fallingfields.laying import row_record, row_whole
from fallingfields.leasts import least_row, least_whole
from fallingfields.orders import order_whole
from fallingfields.rooms import rooms_whole
from samples import (
    ALIGNMENTS, CALM, SIX, TOP, all_records, all_rows, next_multiple, orders_of, small_books, some_books,
    some_level_books, some_records, some_rows, whole_by_hand,
)

TAILS, BITS, ODD = ((5, 4), (2, 2)), ((5, 4), (1, 1)), ((11, 8), (2, 2), (6, 2))


def parts(record):
    """Return how many parts record has."""
    many = 1
    for number in record:
        many *= number + 1
    return many


def records_within(book, many, greatest, at):
    """Return some records of book that are not too many fields, nor parts."""
    records = some_records(book, many, greatest, at) + [(1,) * len(book)]
    return [record for record in records if sum(record) <= 100 and parts(record) <= 256]


class LeastTest(unittest.TestCase):
    def judge_row(self, book, record):
        """Judge the row that is told, and its whole."""
        row = least_row(book, record)
        self.assertIsNone(row_error(book, row))
        self.assertEqual(row_record(book, row), record)
        self.assertEqual(row_whole(book, row), least_whole(book, record))
        self.assertEqual(whole_by_hand(book, row), least_whole(book, record))
        self.assertIs(type(least_whole(book, record)), int)

    def check(self, book, record):
        """Judge what is told by all rows of record."""
        with self.subTest(book=book, record=record):
            self.judge_row(book, record)
            self.assertEqual(least_whole(book, record), min(whole_by_hand(book, row) for row in all_rows(record)))

    def too_many(self, limit, book, record):
        for call in (least_whole, least_row):
            with self.subTest(record=record):
                with self.assertRaises(TooMany) as caught:
                    call(book, record)
                self.assertEqual(repr(caught.exception.limit), repr(limit))

    def test_examples(self):
        told = [least_whole(TAILS, record) for record in ((3, 1), (3, 3), (1, 1), (0, 5), (2, 0))]
        self.assertEqual(told, [24, 24, 8, 10, 16])
        self.assertEqual([least_whole(BITS, record) for record in ((2, 3), (1, 4), (0, 7))], [16, 12, 7])
        self.assertEqual([least_whole(ODD, record) for record in ((2, 2, 0), (1, 1, 1), (1, 1, 2))], [32, 24, 32])
        found = least_row(TAILS, (3, 1))
        self.assertEqual((row_whole(TAILS, found), row_record(TAILS, found)), (24, (3, 1)))
        self.assertEqual((least_row(TAILS, (0, 2)), least_row(TAILS, (1, 1))), ((1, 1), (0, 1)))
        self.too_many(100, TAILS, (101, 0))
        self.too_many(256, TAILS, (15, 16))

    def test_all_rows_of_two_small_kinds(self):
        for book in small_books(2, (1, 2, 4), 5)[::2] + small_books(2, (8, 2), 9)[::11]:
            for record in all_records(2, 3) + [(5, 1), (1, 6), (4, 4), (2, 5)]:
                self.check(book, record)

    def test_all_rows_of_three_kinds_to_six(self):
        for kinds in range(3, 7):
            for at, book in enumerate(some_books(60, kinds, 500 + kinds)):
                for record in some_records(book, 3, 3, at):
                    if sum(record) <= 6:
                        self.check(book, record)

    def test_one_field_of_each_of_six_kinds(self):
        for book in [SIX, SIX[::-1], CALM * 3] + [book for book in some_books(40, 6, 510) if len(book) == 6][:5]:
            self.check(book, (1,) * 6)

    def test_one_kind_alone(self):
        for alignment in ALIGNMENTS:
            for size in (1, alignment, alignment + 1, TOP - 1, TOP):
                for many in (1, 2, 99, 100):
                    book = ((size, alignment),)
                    self.assertEqual(least_whole(book, (many,)), rooms_whole(book, (many,)))
                    self.assertEqual(least_row(book, (many,)), (0,) * many)

    def test_noughts(self):
        book = ((64, 64), (5, 4), (1, 1), (2, 2))
        for record in ((0, 1, 0, 1), (0, 2, 0, 2), (0, 0, 5, 0), (1, 0, 0, 3)):
            self.check(book, record)

    def test_a_hundred_fields_and_one_more(self):
        for record in ((100,), (0, 100), (100, 0), (0, 0, 99, 1), (1, 99), (0, 0, 0, 0, 0, 100), (1, 0, 98, 0, 0, 0)):
            self.judge_row(SIX[:len(record)], record)
        for record in ((101,), (0, 101), (100, 1), (50, 51), (99, 1, 1), (TOP,), (TOP,) * 6, (17,) * 6, (0, 0, 101, 0)):
            self.too_many(MAX_ROW, SIX[:len(record)], record)

    def test_255_parts_and_256_and_257(self):
        for record, many in (
            ((14, 16), 255), ((4, 50), 255), ((15, 15), 256), ((7, 31), 256), ((3, 63), 256), ((3, 3, 3, 3), 256),
            ((1, 1, 3, 15), 256), ((1, 1, 1, 1, 3, 3), 256), ((0, 15, 0, 15), 256), ((2, 84), 255), ((2, 0, 84), 255),
        ):
            self.assertEqual(parts(record), many)
            self.judge_row(SIX[-len(record):], record)
        for record in (
            (15, 16), (2, 85), (1, 1, 1, 32), (3, 3, 3, 4), (1, 2, 2, 2, 2, 2), (2, 2, 2, 2, 2, 2), (0, 15, 0, 16),
        ):
            self.assertTrue(256 < parts(record) and sum(record) <= 100)
            self.too_many(MAX_STATES, SIX[:len(record)], record)
        # 257 is a prime, so one number would have to be 256, which is too many fields; 258 is the next one.
        self.too_many(MAX_ROW, SIX[:1], (256,))
        self.assertEqual(parts((2, 85)), 258)

    def test_fields_are_told_ahead_of_parts(self):
        for record in ((60, 60), (101, 1), (50, 51), (17, 17, 17, 17, 17, 17)):
            self.assertGreater(parts(record), 256 if record != (101, 1) else 200)
            self.too_many(100, SIX[:len(record)], record)

    def test_great_sizes(self):
        book = ((TOP, 64), (TOP - 1, 2), (TOP - 31, 32))
        for record in ((1, 1, 1), (2, 2, 2), (0, 3, 2)):
            self.check(book, record)


class WhatHoldsTest(unittest.TestCase):
    """What [G3] tells."""

    def test_who_ends_earlier_lets_the_others_end_no_later(self):
        for at, book in enumerate(some_books(150, 5, 520)):
            for ahead in some_rows(book, 2, 6, at):
                for row in some_rows(book, 2, 5, at + 1):
                    wholes = []
                    for turned in sorted(set(itertools.islice(itertools.permutations(ahead), 24))):
                        end = 0
                        for place in turned:
                            end = next_multiple(end, book[place][1]) + book[place][0]
                        behind = end
                        for place in row:
                            behind = next_multiple(behind, book[place][1]) + book[place][0]
                        wholes.append((end, behind))
                    self.assertEqual([last for _, last in sorted(wholes)], sorted(last for _, last in wholes))

    def test_between_the_floor_and_each_order(self):
        for at, book in enumerate(some_books(250, 5, 521)):
            for record in records_within(book, 3, 5, at):
                least = least_whole(book, record)
                with self.subTest(book=book, record=record):
                    self.assertGreaterEqual(least, floor_whole(book, record))
                    for order in orders_of(book)[:24]:
                        self.assertLessEqual(least, order_whole(book, order, record))

    def test_no_row_is_less(self):
        for at, book in enumerate(some_books(250, 5, 522)):
            for row in some_rows(book, 3, 12, at):
                if parts(row_record(book, row)) <= 256:
                    self.assertLessEqual(least_whole(book, row_record(book, row)), row_whole(book, row))

    def test_of_level_books_it_is_the_rooms_whole(self):
        for kinds in range(1, 7):
            for at, book in enumerate(some_level_books(25, kinds, 530 + kinds)):
                for record in records_within(book, 3, 5, at):
                    self.assertEqual(least_whole(book, record), rooms_whole(book, record))

    def test_with_a_field_less_it_is_no_greater(self):
        for at, book in enumerate(some_books(150, 4, 540)):
            for record in records_within(book, 3, 5, at):
                for place, number in enumerate(record):
                    fewer = record[:place] + (number - 1,) + record[place + 1:]
                    if number > 0 and sum(fewer) > 0:
                        self.assertLessEqual(least_whole(book, fewer), least_whole(book, record))

    def test_two_records_together(self):
        for at, book in enumerate(some_books(150, 3, 541)):
            records = records_within(book, 4, 3, at)
            for one, other in zip(records, records[1:]):
                both = tuple(a + b for a, b in zip(one, other))
                top = max(kind[1] for kind, number in zip(book, both) if number > 0)
                apart = [next_multiple(least_whole(book, record), top) for record in (one, other)]
                self.assertLessEqual(least_whole(book, both), sum(apart))

    def test_kinds_in_another_order_change_the_places_alone(self):
        for at, book in enumerate(some_books(60, 4, 542)):
            for record in records_within(book, 2, 4, at):
                for order in orders_of(book):
                    turned = tuple(book[place] for place in order)
                    fields = tuple(record[place] for place in order)
                    self.assertEqual(least_whole(turned, fields), least_whole(book, record))


if __name__ == "__main__":
    unittest.main()

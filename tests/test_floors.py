import random
import unittest

from fallingfields.books import pieces_error
from fallingfields.errors import Few
from fallingfields.floors import floor_pieces, floor_whole, needed, shares
from fallingfields.laying import row_padding, row_record, row_whole
from fallingfields.levels import beaten, level_error
from fallingfields.pieces import pieces_record, pieces_whole
from fallingfields.rooms import rooms_whole
from samples import (
    ALIGNMENTS, SIX, TOP, all_records, all_rows, lack_by_hand, next_multiple, pieces_whole_by_doubling, power_by_hand,
    room_by_hand, small_books, some_books, some_level_books, some_records, some_rows,
)

TAILS, BITS, ODD = ((5, 4), (2, 2)), ((5, 4), (1, 1)), ((11, 8), (2, 2), (6, 2))
LATE = ((1, 2), (1, 1), (4, 4))
FINE = ((1, 64), (2, 32), (3, 16), (1, 8), (1, 4), (1, 1))


def unit_by_hand(book, record):
    return min(power_by_hand(room_by_hand(kind)) for kind, number in zip(book, record) if number > 0)


def floor_by_hand(book, record):
    """Return the floor of record, reckoned kind by kind as the document tells it."""
    unit = unit_by_hand(book, record)
    together = 0
    for (size, alignment), number in zip(book, record):
        together += next_multiple(size, min(alignment, unit)) * number
    return next_multiple(together, max(kind[1] for kind, number in zip(book, record) if number > 0))


def needed_by_hand(book, record):
    """Return what is needed, each number k found by going on from 0, for each field if there are few."""
    unit = unit_by_hand(book, record)
    pairs = []
    for y, kind in enumerate(book):
        if record[y] > 0 and power_by_hand(room_by_hand(kind)) == unit:
            total = 0
            for x, other in enumerate(book):
                if record[x] > 0 and lack_by_hand(other) >= unit:
                    k = 0
                    while (k * room_by_hand(kind) - unit * (lack_by_hand(other) // unit)) % other[1] != 0:
                        k += 1
                    total += k * record[x]
            pairs.append((y, total))
    return tuple(pairs)


def books_and_records():
    """Return pairs of a book and a record of it: small ones and great ones, level books and others."""
    books = some_books(250, 6, 401) + some_level_books(40, 4, 402) + [FINE, SIX, FINE[::-1], TAILS * 3]
    pairs = []
    for at, book in enumerate(books):
        alone = tuple(3 if place == at % len(book) else 0 for place in range(len(book)))
        records = some_records(book, 3, 9, at) + some_records(book, 2, TOP, at) + [(TOP,) * len(book), alone]
        pairs += [(book, record) for record in records]
    return pairs


class SharesTest(unittest.TestCase):
    def test_examples(self):
        told = [shares(book) for book in (TAILS, BITS, ODD, ((6, 4), (8, 8)))]
        self.assertEqual(told, [(1, 0), (0, 0), (1, 0, 0), (2, 0)])

    def test_many_books(self):
        for book in some_books(300, 6, 403) + some_level_books(60, 6, 404) + [FINE, SIX]:
            unit = unit_by_hand(book, (1,) * len(book))
            right = tuple(lack_by_hand(kind) % unit for kind in book)
            with self.subTest(book=book):
                self.assertEqual(repr(shares(book)), repr(right))

    def test_of_level_books_they_are_the_lacks(self):
        for book in some_level_books(60, 5, 405):
            self.assertEqual(shares(book), tuple(lack_by_hand(kind) for kind in book))


class FloorWholeTest(unittest.TestCase):
    def test_examples(self):
        records = ((3, 3), (3, 1), (3, 0), (0, 5), (TOP, TOP))
        self.assertEqual([floor_whole(TAILS, record) for record in records], [24, 20, 24, 10, 8 * TOP])
        self.assertEqual([floor_whole(BITS, (2, 6)), floor_whole(ODD, (1, 1, 1)), floor_whole(ODD, (1, 0, 2))],
                         [16, 24, 24])
        self.assertEqual(floor_whole(((6, 4), (8, 8)), (1, 1)), 16)

    def test_against_a_reckoning(self):
        for book, record in books_and_records():
            with self.subTest(book=book, record=record):
                self.assertEqual(repr(floor_whole(book, record)), repr(floor_by_hand(book, record)))

    def test_field_by_field(self):
        for at, book in enumerate(some_books(150, 4, 406)):
            for record in some_records(book, 3, 6, at):
                unit = unit_by_hand(book, record)
                row = [place for place, number in enumerate(record) for _ in range(number)]
                end = 0
                for place in row:
                    end += next_multiple(book[place][0], min(book[place][1], unit))
                with self.subTest(book=book, record=record):
                    self.assertEqual(floor_whole(book, record), next_multiple(end, max(book[p][1] for p in row)))

    def test_noughts_are_passed_over(self):
        # Neither their units nor their alignments count.
        self.assertEqual(floor_whole(BITS, (1, 0)), 8)
        self.assertEqual(floor_whole(BITS + ((64, 64),), (1, 1, 0)), 8)
        self.assertEqual(floor_whole(BITS + ((64, 64),), (1, 0, 1)), 128)
        self.assertEqual(floor_whole(((1, 64), (1, 1)), (0, 5)), 5)

    def test_one_kind_alone(self):
        for alignment in ALIGNMENTS:
            for size in (1, alignment, alignment + 1, TOP - 1, TOP):
                for number in (1, 2, 63, TOP):
                    book = ((size, alignment), (1, 1))
                    self.assertEqual(floor_whole(book, (number, 0)), number * room_by_hand((size, alignment)))


class NeededTest(unittest.TestCase):
    def test_examples(self):
        self.assertEqual([needed(TAILS, (3, 1)), needed(TAILS, (3, 0))], [((1, 3),), ((0, 0),)])
        self.assertEqual(needed(BITS, (2, 6)), ((1, 6),))
        self.assertEqual([needed(ODD, (1, 1, 1)), needed(ODD, (1, 0, 2))], [((1, 2), (2, 2)), ((2, 2),)])
        self.assertEqual(needed(((6, 4), (8, 8)), (1, 1)), ((0, 0), (1, 0)))
        self.assertEqual(needed(LATE, (1, 2, 1)), ((1, 1),))

    def test_against_a_reckoning(self):
        for book, record in books_and_records():
            with self.subTest(book=book, record=record):
                self.assertEqual(repr(needed(book, record)), repr(needed_by_hand(book, record)))

    def test_each_lack_by_each_finest_kind(self):
        for alignment in ALIGNMENTS[1:]:
            for lack in range(alignment):
                for fine in ((1, 1), (3, 1), (2, 2), (6, 2), (12, 4), (8, 8), (TOP - 1, 1), (24, 8)):
                    book = ((2 * alignment - lack, alignment), fine, (64, 64))
                    for record in ((1, 1, 0), (7, 5, 1), (TOP, 1, 0)):
                        with self.subTest(book=book, record=record):
                            self.assertEqual(repr(needed(book, record)), repr(needed_by_hand(book, record)))

    def test_numbers_above_the_bound_of_records(self):
        self.assertEqual(needed(((1, 64), (3, 1)), (TOP, 1)), ((1, 21 * TOP),))
        self.assertEqual(needed(((1, 64), (5, 1), (1, 32)), (TOP, 1, TOP)), ((1, (63 * 13 % 64 + 31 * 13 % 32) * TOP),))

    def test_nought_if_no_lack_is_as_great(self):
        for at, book in enumerate(some_level_books(60, 4, 407)):
            for record in some_records(book, 3, TOP, at):
                self.assertTrue(all(number == 0 for _, number in needed(book, record)))


class FloorPiecesTest(unittest.TestCase):
    def check(self, book, record):
        """Judge what is told by the laying of pieces; Few just where no kind has as many fields as are needed."""
        enough = any(record[place] >= number for place, number in needed_by_hand(book, record))
        with self.subTest(book=book, record=record):
            if not enough:
                with self.assertRaises(Few):
                    floor_pieces(book, record)
            else:
                pieces = floor_pieces(book, record)
                self.assertIsNone(pieces_error(book, pieces))
                self.assertEqual(pieces_record(book, pieces), record)
                self.assertEqual(pieces_whole(book, pieces), floor_by_hand(book, record))
                self.assertEqual(pieces_whole_by_doubling(book, pieces), floor_by_hand(book, record))
        return enough

    def test_examples(self):
        found = floor_pieces(TAILS, (3, 4))
        told = (pieces_record(TAILS, found), pieces_whole(TAILS, found), floor_whole(TAILS, (3, 4)))
        self.assertEqual(told, ((3, 4), 28, 28))
        self.check(ODD, (5 * 10 ** 29, TOP, 0))
        self.assertEqual(floor_whole(ODD, (5 * 10 ** 29, TOP, 0)), 8 * TOP)
        self.assertEqual(pieces_whole(LATE, floor_pieces(LATE, (1, 2, 1))), 8)
        for book, record in ((TAILS, (3, 1)), (BITS, (2, 3))):
            with self.assertRaises(Few):
                floor_pieces(book, record)

    def test_many_books_and_records(self):
        enough = [self.check(book, record) for book, record in books_and_records()]
        self.assertTrue(200 < sum(enough) < len(enough) - 100)

    def test_all_records_with_few_fields(self):
        for book in small_books(2, (1, 2, 4), 5)[::3] + [ODD, LATE, ((5, 8), (4, 4), (2, 2)), ((1, 8), (3, 1), (2, 4))]:
            for record in all_records(len(book), 9 if len(book) == 2 else 5):
                self.check(book, record)

    def just_enough(self, book, record, y):
        """Return record with just as many fields of the kind at y as are needed, or one if none are."""
        record = record[:y] + (1,) + record[y + 1:]
        number = dict(needed_by_hand(book, record)).get(y)
        return None if number is None else record[:y] + (max(1, number),) + record[y + 1:]

    def test_just_as_many_as_are_needed_and_one_fewer_and_one_more(self):
        fewer_is_few = 0
        for at, book in enumerate(some_books(200, 4, 408) + [FINE, FINE[::-1], TAILS, BITS, LATE]):
            for y, record in enumerate(some_records(book, len(book), 9, at)):
                just = self.just_enough(book, record, y)
                if just is not None:
                    self.assertTrue(self.check(book, just))
                    self.assertTrue(self.check(book, just[:y] + (just[y] + 1,) + just[y + 1:]))
                    fewer = just[:y] + (just[y] - 1,) + just[y + 1:]
                    if fewer[y] > 0:
                        fewer_is_few += not self.check(book, fewer)
        self.assertGreater(fewer_is_few, 30)

    def test_the_second_kind_of_needed_is_enough(self):
        self.assertEqual(needed(ODD, (2, 1, 4)), ((1, 4), (2, 4)))
        self.assertTrue(self.check(ODD, (2, 1, 4)))
        self.assertTrue(self.check(ODD, (2, 4, 1)))
        self.assertFalse(self.check(ODD, (2, 3, 3)))

    def test_ten_to_the_thirtieth_of_others(self):
        for book, record in (
            (TAILS, (TOP, TOP)), (BITS, (TOP // 3, TOP)), (BITS, (TOP // 3 + 1, TOP)), (LATE, (TOP, TOP, TOP)),
            (((1, 64), (2, 32), (3, 16), (1, 1)), (TOP // 63, 0, 1, TOP)), (((6, 4), (8, 8)), (TOP, TOP)),
            (FINE, (TOP // 200, TOP // 200, TOP // 200, TOP // 200, TOP // 200, TOP)), (FINE, (TOP,) * 6),
        ):
            self.check(book, record)
        self.assertTrue(self.check(((TOP, 64),) * 6, (TOP,) * 6))
        book = ((1, 64), (1, 1), (64, 64), (32, 32), (16, 16), (8, 8))
        self.assertTrue(self.check(book, (1, 63, TOP, TOP, TOP, TOP)))

    def test_the_longest_rows(self):
        record = (TOP // 100, TOP)
        for odd in range(1, 64, 2):
            self.check(((1, 64), (odd, 1)), record)
            self.check(((64 - odd, 64), (TOP - odd, 1), (1, 1)), (TOP // 100, TOP, 7))

    def test_few_though_the_floor_is_reached(self):
        self.assertEqual(row_whole(BITS, (0, 1, 1, 1, 0)), floor_whole(BITS, (2, 3)))
        self.assertFalse(self.check(BITS, (2, 3)))


class WhatHoldsTest(unittest.TestCase):
    """What [F4] tells."""

    def test_no_row_is_below_the_floor(self):
        books = small_books(2, (1, 2, 4), 5)[::2] + small_books(2, (8, 2), 8)[::5] + small_books(3, (1, 2, 4), 3)[::9]
        for book in books:
            for record in all_records(len(book), 3 if len(book) == 2 else 2):
                least = min(row_whole(book, row) for row in all_rows(record))
                with self.subTest(book=book, record=record):
                    self.assertGreaterEqual(least, floor_whole(book, record))

    def test_no_long_row_is_below_the_floor(self):
        for at, book in enumerate(some_books(300, 6, 409)):
            for row in some_rows(book, 6, 100, at):
                with self.subTest(book=book, row=row):
                    self.assertGreaterEqual(row_whole(book, row), floor_whole(book, row_record(book, row)))

    def test_pieces_that_beat_all_orders_are_not_below_the_floor(self):
        for book in some_books(200, 5, 410):
            if level_error(book) is not None:
                record, pieces = beaten(book)
                self.assertGreaterEqual(pieces_whole(book, pieces), floor_whole(book, record))

    def test_the_padding_is_at_least_the_shares(self):
        for at, book in enumerate(some_books(300, 6, 411)):
            for row in some_rows(book, 6, 100, at):
                with self.subTest(book=book, row=row):
                    self.assertGreaterEqual(row_padding(book, row), sum(shares(book)[place] for place in row))

    def test_no_greater_shares_do_whatever_is_taken_off(self):
        # With very many fields of one kind, and of a finest kind as many as are needed, hardly more is lost.
        for book in some_books(120, 4, 412):
            for place in range(len(book)):
                for many in (10 ** 6, 10 ** 20):
                    for y in range(len(book)):
                        record = tuple(many if at == place else 1 for at in range(len(book)))
                        number = dict(needed(book, record)).get(y)
                        if number is not None and (y != place or number <= many):
                            record = record[:y] + (max(record[y], number),) + record[y + 1:]
                            sizes = sum(count * size for count, (size, _) in zip(record, book))
                            padding = pieces_whole(book, floor_pieces(book, record)) - sizes
                            lost = sum(count * share for count, share in zip(record, shares(book)))
                            with self.subTest(book=book, record=record):
                                self.assertTrue(0 <= padding - lost < 64)

    def test_of_level_books_it_is_the_rooms_whole(self):
        for kinds in range(1, 7):
            for at, book in enumerate(some_level_books(40, kinds, 420 + kinds)):
                for record in some_records(book, 3, 9, at) + some_records(book, 2, TOP, at):
                    self.assertEqual(floor_whole(book, record), rooms_whole(book, record))
                    self.assertTrue(pieces_whole(book, floor_pieces(book, record)) == rooms_whole(book, record))

    def test_why_by_lower_alignments(self):
        numbers = random.Random(430)
        for at, book in enumerate(some_books(200, 5, 430)):
            for record in some_records(book, 2, 9, at):
                unit = unit_by_hand(book, record)
                there = [place for place, number in enumerate(record) if number > 0]
                lower = tuple((book[place][0], min(book[place][1], unit)) for place in there)
                fields = tuple(record[place] for place in there)
                self.assertIsNone(level_error(lower))
                self.assertEqual(next_multiple(rooms_whole(lower, fields), max(book[place][1] for place in there)),
                                 floor_whole(book, record))
                row = [at for at, number in enumerate(fields) for _ in range(number)]
                numbers.shuffle(row)
                self.assertLessEqual(row_whole(lower, row), row_whole(book, [there[at] for at in row]))


if __name__ == "__main__":
    unittest.main()

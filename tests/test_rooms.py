import unittest

from fallingfields.bounds import MAX_SIZE
from fallingfields.laying import row_record, row_whole
from fallingfields.rooms import lacks, record_unit, rooms, rooms_whole, unit
from samples import (
    ALIGNMENTS, PAIR, SIX, TAIL, TOP, WIDE, next_multiple, power_by_hand, room_by_hand, sizes_about, some_books,
    some_records, some_rows,
)


class RoomsTest(unittest.TestCase):
    def check_book(self, book):
        with self.subTest(book=book):
            told = [room_by_hand(kind) for kind in book]
            self.assertEqual(repr(rooms(book)), repr(tuple(told)))
            self.assertEqual(repr(lacks(book)), repr(tuple(room - size for room, (size, _) in zip(told, book))))
            self.assertEqual(repr(unit(book)), repr(min(power_by_hand(room) for room in told)))

    def check_record(self, book, record):
        with self.subTest(book=book, record=record):
            there = [(kind, number) for kind, number in zip(book, record) if number > 0]
            together = sum(number * room_by_hand(kind) for kind, number in there)
            whole = next_multiple(together, max(kind[1] for kind, _ in there))
            self.assertEqual(repr(rooms_whole(book, record)), repr(whole))
            self.assertEqual(record_unit(book, record), min(power_by_hand(room_by_hand(kind)) for kind, _ in there))
            self.assertIs(type(record_unit(book, record)), int)

    def test_examples_of_books(self):
        self.assertEqual((rooms(PAIR), lacks(PAIR), unit(PAIR)), ((8, 4), (2, 1), 4))
        self.assertEqual((rooms(TAIL), lacks(TAIL), unit(TAIL)), ((16, 1, 2), (7, 0, 0), 1))
        self.assertEqual((rooms(WIDE), lacks(WIDE), unit(WIDE)), ((TOP, TOP, 48), (0, 1, 0), 16))

    def test_examples_of_records(self):
        self.assertEqual([record_unit(PAIR, record) for record in ((3, 0), (1, 1))], [8, 4])
        self.assertEqual([record_unit(TAIL, record) for record in ((5, 0, 7), (1, 0, 0))], [2, 16])
        self.assertEqual(record_unit(WIDE, (1, 1, 0)), 1073741824)
        self.assertEqual([rooms_whole(PAIR, record) for record in ((2, 1), (0, 1), (1, 3))], [20, 4, 20])
        self.assertEqual([rooms_whole(TAIL, record) for record in ((1, 1, 0), (0, 1, 1))], [24, 4])
        self.assertEqual(rooms_whole(PAIR, (TOP, 1)), 8 * TOP + 4)
        self.assertEqual(rooms_whole(((1, 1), (64, 64)), (TOP, 1)), TOP + 64)

    def test_kinds_of_each_size_and_alignment(self):
        for alignment in ALIGNMENTS:
            for size in sizes_about(alignment):
                self.check_book(((size, alignment),))
                for record in ((1,), (2,), (63,), (64,), (TOP,)):
                    self.check_record(((size, alignment),), record)

    def test_all_six_kinds(self):
        self.check_book(SIX)
        self.check_book(((TOP - 1, 2), (TOP - 1, 4), (TOP - 1, 8), (TOP - 1, 16), (TOP - 1, 32), (TOP - 1, 64)))
        for place in range(6):
            for number in (1, 2, 7, TOP):
                self.check_record(SIX, (0,) * place + (number,) + (0,) * (5 - place))
        for record in ((1,) * 6, (TOP,) * 6, (0, 1, 0, 1, 0, 1), (1, 0, 1, 0, 1, 0), (TOP, 0, 0, 0, 0, 1)):
            self.check_record(SIX, record)

    def test_many_books_and_records(self):
        for at, book in enumerate(some_books(300, 6, 11)):
            self.check_book(book)
            for record in some_records(book, 5, 9, at) + some_records(book, 3, TOP, at) + [(TOP,) * len(book)]:
                self.check_record(book, record)

    def test_units_of_great_powers(self):
        self.assertEqual(unit(((2 ** 99, 1),)), 2 ** 99)
        self.assertEqual(unit(((2 ** 99 - 63, 64), (2 ** 98, 2))), 2 ** 98)
        self.assertEqual(record_unit(((2 ** 99, 1), (3, 1)), (TOP, 0)), 2 ** 99)


class WhatHoldsTest(unittest.TestCase):
    """What [C4] tells."""

    def test_lacks_rooms_and_units_of_books(self):
        self.assertEqual([MAX_SIZE % alignment for alignment in ALIGNMENTS], [0] * 7)
        books = some_books(300, 6, 12) + [((size, a),) for a in ALIGNMENTS for size in sizes_about(a)]
        for book in books:
            with self.subTest(book=book):
                for (size, alignment), room, lack in zip(book, rooms(book), lacks(book)):
                    self.assertTrue(0 <= lack < alignment)
                    self.assertEqual(size + lack, room)
                    self.assertEqual(room % alignment, 0)
                    self.assertLessEqual(room, MAX_SIZE)
                    self.assertGreaterEqual(unit(((size, alignment),)), alignment)
                self.assertGreaterEqual(unit(book), min(alignment for _, alignment in book))
                self.assertEqual([room % unit(book) for room in rooms(book)], [0] * len(book))

    def test_units_of_records(self):
        for at, book in enumerate(some_books(300, 6, 13)):
            for record in some_records(book, 5, 9, at):
                with self.subTest(book=book, record=record):
                    told = record_unit(book, record)
                    self.assertTrue(all(room % told == 0 for room, many in zip(rooms(book), record) if many > 0))
                    self.assertGreaterEqual(told, unit(book))
            self.assertEqual(record_unit(book, (1,) * len(book)), unit(book))
            self.assertEqual(record_unit(book, (TOP,) * len(book)), unit(book))

    def test_falling_rows_have_at_most_the_whole_of_rooms(self):
        for at, book in enumerate(some_books(300, 6, 14)):
            for row in some_rows(book, 5, 100, at):
                falling = tuple(sorted(row, key=lambda place: -book[place][1]))
                with self.subTest(book=book, row=falling):
                    self.assertLessEqual(row_whole(book, falling), rooms_whole(book, row_record(book, falling)))

    def test_twice_a_record_and_a_field_more(self):
        for at, book in enumerate(some_books(300, 6, 15)):
            for record in some_records(book, 5, 9, at) + some_records(book, 2, TOP, at):
                with self.subTest(book=book, record=record):
                    whole = rooms_whole(book, record)
                    self.assertLessEqual(rooms_whole(book, tuple(2 * many for many in record)), 2 * whole)
                    for place in range(len(book)):
                        more = record[:place] + (record[place] + 1,) + record[place + 1:]
                        self.assertGreaterEqual(rooms_whole(book, more), whole)


if __name__ == "__main__":
    unittest.main()

import itertools
import unittest

from fallingfields.laying import row_whole
from fallingfields.leasts import least_whole
from fallingfields.levels import level_error
from fallingfields.mends import least_lot, level_lots, rounded
from fallingfields.rooms import rooms, rooms_whole, unit
from samples import (
    ALIGNMENTS, SIX, TOP, lack_by_hand, power_by_hand, room_by_hand, small_books, some_books, some_level_books,
    some_records, some_rows, unlevel_pairs,
)

MIXED, TAIL, WIRE = ((12, 8), (3, 2), (6, 4)), ((6, 4), (3, 2), (1, 1)), ((6, 4), (3, 2))


def lots_of(book):
    """Return all lots of book, ascending."""
    places = range(len(book))
    return sorted(lot for many in range(len(book) + 1) for lot in itertools.combinations(places, many))


def rounded_by_hand(book, lot):
    """Return book with the kinds at the places of lot rounded up."""
    kinds = list(book)
    for place in lot:
        kinds[place] = (room_by_hand(book[place]), book[place][1])
    return tuple(kinds)


def least_lot_by_hand(book):
    """Return the places of the kinds whose lack is no less than the least power of a room."""
    least = min(power_by_hand(room_by_hand(kind)) for kind in book)
    return tuple(place for place, kind in enumerate(book) if lack_by_hand(kind) >= least)


def books():
    """Return books of one kind to six, level ones and others, small ones and great ones."""
    found = [MIXED, TAIL, WIRE, SIX, SIX[::-1], ((5, 1), (7, 1))] + small_books(2, (1, 4, 8), 8)[::5]
    for kinds in range(1, 7):
        found += some_books(40, kinds, 700 + kinds) + some_level_books(10, kinds, 710 + kinds)
    return found


class MendsTest(unittest.TestCase):
    def test_examples(self):
        told = (rounded(MIXED, (0,)), rounded(MIXED, ()), rounded(MIXED, (0, 1, 2)))
        right = (((16, 8), (3, 2), (6, 4)), ((12, 8), (3, 2), (6, 4)), ((16, 8), (4, 2), (8, 4)))
        self.assertEqual(told, right)
        self.assertEqual(rounded(((10 ** 30 - 1, 64),), (0,)), ((10 ** 30, 64),))
        self.assertEqual([least_lot(book) for book in (MIXED, TAIL, WIRE, ((5, 1), (7, 1)))], [(0,), (0, 1), (), ()])
        self.assertEqual(level_lots(MIXED), ((0,), (0, 1), (0, 1, 2), (0, 2)))
        self.assertEqual(level_lots(TAIL), ((0, 1), (0, 1, 2)))
        self.assertEqual(level_lots(WIRE), ((), (0,), (0, 1), (1,)))

    def test_rounded_by_all_lots(self):
        for book in books():
            for lot in lots_of(book):
                with self.subTest(book=book, lot=lot):
                    self.assertEqual(repr(rounded(book, lot)), repr(rounded_by_hand(book, lot)))

    def test_rounded_by_none_and_by_all(self):
        for book in books():
            self.assertEqual(rounded(book, ()), book)
            lot = tuple(range(len(book)))
            self.assertEqual([size for size, _ in rounded(book, lot)], list(rooms(book)))

    def test_each_alignment(self):
        for alignment in ALIGNMENTS:
            for size in (1, alignment, alignment + 1, TOP - alignment + 1, TOP - 1, TOP):
                book = ((size, alignment), (1, 1))
                self.assertEqual(rounded(book, (0,)), ((room_by_hand(book[0]), alignment), (1, 1)))
                self.assertEqual(rounded(book, (1,)), book)

    def test_least_lot_of_many_books(self):
        for book in books():
            with self.subTest(book=book):
                self.assertEqual(repr(least_lot(book)), repr(least_lot_by_hand(book)))

    def test_a_lack_just_as_great_as_the_unit(self):
        for least in (1, 2, 4, 8, 16, 32):
            book = ((128 - least, 64), (128 - least + 1, 64), (least, least), (64 - least, 64))
            self.assertEqual(least_lot(book), (0, 3))
            self.assertEqual(level_lots(book), ((0, 1, 2, 3), (0, 1, 3), (0, 2, 3), (0, 3)))

    def test_level_lots_of_many_books(self):
        for book in books():
            right = tuple(lot for lot in lots_of(book) if not unlevel_pairs(rounded_by_hand(book, lot)))
            with self.subTest(book=book):
                self.assertEqual(repr(level_lots(book)), repr(right))

    def test_six_kinds_have_all_lots_or_one(self):
        self.assertEqual(level_lots(((64, 64),) * 6), tuple(lots_of(SIX)))
        self.assertEqual(len(level_lots(((64, 64),) * 6)), 64)
        self.assertEqual(level_lots(((1, 64), (2, 32), (3, 16), (1, 8), (1, 4), (1, 2))), ((0, 1, 2, 3, 4),) + (
            (0, 1, 2, 3, 4, 5),))
        self.assertEqual(level_lots(((1, 64),) * 5 + ((1, 1),)), ((0, 1, 2, 3, 4), (0, 1, 2, 3, 4, 5)))


class WhatHoldsTest(unittest.TestCase):
    """What [I3] tells."""

    def test_rounding_up_leaves_all_rooms(self):
        for book in books():
            for lot in lots_of(book)[::3]:
                self.assertEqual(rooms(rounded(book, lot)), rooms(book))
                self.assertEqual(unit(rounded(book, lot)), unit(book))

    def test_level_exactly_with_all_places_of_the_least_lot(self):
        for book in books():
            least = least_lot(book)
            for lot in lots_of(book):
                with self.subTest(book=book, lot=lot):
                    self.assertEqual(level_error(rounded(book, lot)) is None, set(least) <= set(lot))

    def test_the_least_lot_stands_in_each_and_is_one_of_them(self):
        for book in books():
            lots = level_lots(book)
            with self.subTest(book=book):
                self.assertIn(least_lot(book), lots)
                self.assertTrue(all(set(least_lot(book)) <= set(lot) for lot in lots))
                self.assertEqual(len(lots), 2 ** (len(book) - len(least_lot(book))))
                self.assertEqual(least_lot(book) == (), level_error(book) is None)

    def test_no_whole_is_made_less(self):
        for at, book in enumerate(some_books(150, 5, 720)):
            for row in some_rows(book, 3, 30, at):
                for lot in lots_of(book)[::5] + [tuple(range(len(book)))]:
                    self.assertGreaterEqual(row_whole(rounded(book, lot), row), row_whole(book, row))

    def test_the_rooms_whole_is_the_same_and_the_least_whole_is_no_more(self):
        for at, book in enumerate(some_books(150, 4, 721)):
            mended = rounded(book, least_lot(book))
            for record in some_records(book, 2, 9, at) + some_records(book, 1, TOP, at):
                self.assertEqual(rooms_whole(mended, record), rooms_whole(book, record))
            for record in some_records(book, 2, 3, at):
                self.assertEqual(least_whole(mended, record), rooms_whole(book, record))
                self.assertLessEqual(least_whole(book, record), rooms_whole(book, record))

    def test_rounded_twice(self):
        for book in books()[::3]:
            lots = lots_of(book)
            for one, other in zip(lots, lots[::-1] + lots[:1]):
                both = tuple(sorted(set(one) | set(other)))
                self.assertEqual(rounded(rounded(book, one), other), rounded(book, both))
            for lot in lots:
                self.assertEqual(rounded(rounded(book, lot), lot), rounded(book, lot))


if __name__ == "__main__":
    unittest.main()

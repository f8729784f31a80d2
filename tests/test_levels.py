import itertools
import random
import unittest

from fallingfields.books import pieces_error, record_error
from fallingfields.errors import Level
from fallingfields.laying import row_whole
from fallingfields.leasts import least_whole
from fallingfields.levels import beaten, beaten_holds, level_error
from fallingfields.orders import falling_orders, order_whole
from fallingfields.pieces import pieces_record, pieces_whole
from fallingfields.rooms import lacks, rooms, rooms_whole, unit
from samples import (
    ALIGNMENTS, CALM, HUGE, THIN, TOP, all_records, all_rows, any_values, orders_of, pieces_whole_by_doubling,
    sizes_about, small_books, some_books, some_level_books, some_records, unlevel_pairs, whole_by_hand,
)

THREE = ((5, 8), (4, 4), (2, 2))
SLACK = ((5, 4), (2, 2))
TWELVE = ((2, 4), (((0, 1, 1), 2),))


def wholes_by_orders(book, record):
    """Return the wholes of record by all orders of book, laid as a piece for each kind."""
    return [
        pieces_whole_by_doubling(book, [((place,), record[place]) for place in order if record[place] > 0])
        for order in orders_of(book)
    ]


def least_of_all_rows(book, record):
    """Return the least whole of record, each of its rows laid."""
    return min(row_whole(book, row) for row in all_rows(record))


def unlevel_books(books):
    """Return those of books that are not level."""
    return [book for book in books if unlevel_pairs(book)]


class LevelErrorTest(unittest.TestCase):
    def check_book(self, book):
        """Compare what is told with the least of all pairs."""
        with self.subTest(book=book):
            pairs = unlevel_pairs(book)
            self.assertEqual(repr(level_error(book)), repr(min(pairs) if pairs else None))

    def test_examples(self):
        books = (CALM, THIN, THREE, THREE[:2], ((7, 1), (4, 4)), ((7, 8),))
        self.assertEqual([level_error(book) for book in books], [None, (0, 1), (0, 2), None, None, None])

    def test_one_kind_is_always_level(self):
        for alignment in ALIGNMENTS:
            for size in sizes_about(alignment):
                self.assertIsNone(level_error(((size, alignment),)))

    def test_all_small_books_of_two_and_three_kinds(self):
        for book in small_books(2, (1, 2, 4, 8), 9) + small_books(3, (1, 4), 4) + small_books(3, (2, 8), 4):
            self.check_book(book)

    def test_one_kind_to_six(self):
        for kinds in range(1, 7):
            for book in some_books(150, kinds, 40 + kinds):
                self.check_book(book)
            for book in some_level_books(60, kinds, 50 + kinds):
                self.assertIsNone(level_error(book))
                self.check_book(book)

    def test_just_level_and_just_not(self):
        for least in (1, 2, 4, 8, 16, 32):
            for alignment in (a for a in ALIGNMENTS if a > least):
                for room in (alignment, 3 * alignment, TOP):
                    for fine in ((least, least), (3 * least, 1), (TOP - TOP % (2 * least) - least, least)):
                        just, over = (room - least + 1, alignment), (room - least, alignment)
                        with self.subTest(just=just, over=over, fine=fine):
                            self.assertIsNone(level_error((just, fine)))
                            self.assertIsNone(level_error((fine, just)))
                            self.assertIsNone(level_error((just, just, fine, fine)))
                            self.assertEqual(level_error((over, fine)), (0, 1))
                            self.assertEqual(level_error((fine, over)), (1, 0))
                            self.assertEqual(level_error((just, fine, over)), (2, 1))

    def test_just_level_and_just_not_of_six_kinds(self):
        book = ((64 - 3, 64), (32 - 3, 32), (16 - 3, 16), (8 - 3, 8), (4, 4), (12, 4))
        self.assertIsNone(level_error(book))
        for place in range(4):
            size, alignment = book[place]
            self.assertEqual(level_error(book[:place] + ((size - 1, alignment),) + book[place + 1:]), (place, 4))
        for place in range(6):
            self.assertEqual(level_error(book[:place] + ((2, 2),) + book[place + 1:]), (1 if place == 0 else 0, place))

    def test_alike_kinds(self):
        for kind in ((5, 8), (1, 64), (TOP - 1, 2), (TOP, 64), (9, 1)):
            self.assertIsNone(level_error((kind,) * 6))
        self.assertEqual(level_error(THIN * 3), (0, 1))
        self.assertEqual(level_error(THIN[1:] * 2 + THIN[:1] * 4), (2, 0))

    def test_the_least_of_all_pairs(self):
        self.assertEqual(level_error(((1, 1), (1, 1), (5, 8), (1, 8))), (2, 0))
        self.assertEqual(level_error(((6, 4), (2, 2), (1, 1), (6, 8))), (0, 1))
        self.assertEqual(level_error(((7, 4), (2, 2), (1, 1), (6, 8))), (0, 2))
        self.assertEqual(level_error(((8, 8), (2, 2), (1, 1), (6, 8))), (3, 1))

    def test_kinds_in_another_order_are_level_likewise(self):
        for book in some_books(60, 4, 61) + some_level_books(20, 4, 62):
            for order in orders_of(book):
                turned = tuple(book[place] for place in order)
                self.assertEqual(level_error(turned) is None, level_error(book) is None)


class BeatenTest(unittest.TestCase):
    def check_book(self, book):
        """Judge what is told by the laying of rows and pieces alone, and by all orders."""
        with self.subTest(book=book):
            told = beaten(book)
            self.assertIs(type(told), tuple)
            record, pieces = told
            self.assertIsNone(record_error(book, record))
            self.assertIsNone(pieces_error(book, pieces))
            self.assertEqual(pieces_record(book, pieces), record)
            whole = pieces_whole(book, pieces)
            self.assertEqual(whole, pieces_whole_by_doubling(book, pieces))
            self.assertLess(whole, min(wholes_by_orders(book, record)))
            self.assertIs(beaten_holds(book, told), True)

    def test_examples(self):
        for book in (THIN, THREE):
            self.check_book(book)
        with self.assertRaises(Level):
            beaten(CALM)

    def test_all_small_books_of_two_kinds(self):
        for book in small_books(2, (1, 2, 4, 8), 9):
            if unlevel_pairs(book):
                self.check_book(book)
            else:
                self.assertRaises(Level, beaten, book)

    def test_two_kinds_of_each_alignment(self):
        for high, low in itertools.product(ALIGNMENTS, repeat=2):
            for size in (1, high // 2 + 1, high - 1, high + 1, TOP - high + 1, TOP - 1):
                for fine in (1, low, 3 * low, TOP - low, TOP - 1):
                    book = ((max(size, 1), high), (fine, low))
                    if unlevel_pairs(book):
                        self.check_book(book)

    def test_one_kind_to_six(self):
        for kinds in range(2, 7):
            for book in unlevel_books(some_books(400, kinds, 70 + kinds))[:40 if kinds < 6 else 12]:
                self.check_book(book)

    def test_all_orders_of_six_kinds(self):
        six = ((1, 64), (2, 32), (3, 16), (4, 8), (5, 4), (1, 1))
        self.assertEqual(len(orders_of(six)), 720)
        for book in (six, six[::-1], THIN * 3, ((TOP - 63, 64),) * 5 + ((1, 1),)):
            self.check_book(book)

    def test_level_just_of_level_books(self):
        for kinds in range(1, 7):
            for book in some_level_books(40, kinds, 80 + kinds) + some_books(40, kinds, 90 + kinds):
                with self.subTest(book=book):
                    try:
                        beaten(book)
                        self.assertNotEqual(unlevel_pairs(book), [])
                    except Level:
                        self.assertEqual(unlevel_pairs(book), [])


class BeatenHoldsTest(unittest.TestCase):
    def check(self, book, value, right):
        with self.subTest(book=book, value=repr(value)[:200]):
            self.assertIs(beaten_holds(book, value), right)

    def test_examples(self):
        values = (
            TWELVE, ((1, 2), (((0, 1, 1), 1),)), ((2, 4), (((0, 1, 1), 1),)), ((2, 4), (((0,), 2), ((1,), 4))),
            [(2, 4), (((0, 1, 1), 2),)], None,
        )
        for value, right in zip(values, [True] + [False] * 5):
            self.check(THIN, value, right)
        self.check(CALM, TWELVE, False)

    def test_values_of_all_kinds(self):
        record, pieces = TWELVE
        for value in any_values():
            self.check(THIN, value, False)
            self.check(THIN, (record, value), False)
            self.check(THIN, (value, pieces), False)
            self.check(THIN, (record, pieces, value), False)
            self.check(THIN, (record, (((0, 1, 1), value),)), False)
            self.check(THIN, (record, ((value, 2),)), False)
            self.check(THIN, ((2, value), pieces), False)
        self.check(THIN, (record,), False)
        self.check(THIN, (pieces, record), False)
        self.check(THIN, TWELVE + TWELVE, False)

    def test_a_field_more_or_fewer(self):
        record, pieces = TWELVE
        for place, by in itertools.product((0, 1), (-1, 1)):
            turned = record[:place] + (record[place] + by,) + record[place + 1:]
            self.check(THIN, (turned, pieces), False)
        self.check(THIN, (record, pieces + (((1,), 1),)), False)
        self.check(THIN, ((2, 5), pieces + (((1,), 1),)), True)
        self.check(THIN, (record, (((0, 1, 1), 1), ((0, 1), 1))), False)
        self.check(THIN, (record, (((0, 1, 1, 1), 2),)), False)
        self.check(THIN, (record, (((0, 1, 1), 1),)), False)
        self.check(THIN, (record, (((0, 1, 1), 3),)), False)

    def test_the_record_by_another_one(self):
        _, pieces = TWELVE
        for record in all_records(2, 5):
            self.check(THIN, (record, pieces), record == (2, 4))
        for record in ((2,), (2, 4, 0), (), (0, 0), (4, 2)):
            self.check(THIN, (record, pieces), False)

    def test_what_is_no_integer_or_no_tuple(self):
        # Numbers of 1 and places 0 and 1 stand here, so bools would look right.
        one = ((2, 2), (((0, 1), 1), ((0, 1), 1)))
        self.check(SLACK, one, True)
        for record, pieces in (
            ([2, 2], one[1]), ((2, True), one[1]), (one[0], list(one[1])), (one[0], ([(0, 1), 1], ((0, 1), 1))),
            (one[0], (([0, 1], 1), ((0, 1), 1))), (one[0], (((0, 1), True), ((0, 1), 1))),
            (one[0], (((False, 1), 1), ((0, 1), 1))), (one[0], (((0, True), 1), ((0, 1), 1))),
            (one[0], (((0, 1), "1"), ((0, 1), 1))), (one[0], ("01", ((0, 1), 1))),
        ):
            self.check(SLACK, (record, pieces), False)
        self.check(SLACK, list(one), False)
        alone = ((1, 1), (1, 64))
        self.check(alone, ((64, 2), (((1,) + (0,) * 63, 1), ((1, 0), 1))), True)
        self.check(alone, ((64, 2), (((1,) + (0,) * 63, True), ((1, 0), 1))), False)
        self.check(alone, ((64, 2), (((1,) + (0,) * 63, 1), ((True, 0), 1))), False)

    def test_times_of_nought(self):
        record, pieces = TWELVE
        for times in (0, -1, -2):
            self.check(THIN, (record, pieces + (((0, 1, 1), times),)), False)
            self.check(THIN, (record, (((0, 1, 1), times),)), False)

    def test_places_that_are_none(self):
        for place in (-1, 2, 3, HUGE, -HUGE):
            self.check(THIN, ((2, 4), (((0, 1, place), 2),)), False)
        self.check(THIN, ((2, 4), (((0, -1, -1), 2),)), False)

    def test_rows_of_a_hundred_fields_and_one_more(self):
        row = (0, 1, 1) * 33 + (1,)
        self.check(THIN, ((33, 67), ((row, 1),)), True)
        self.check(THIN, ((33, 68), ((row + (1,), 1),)), False)
        self.check(THIN, ((33, 68), ((row, 1), ((1,), 1))), True)
        self.check(THIN, ((2, 4), (((0, 1, 1), 2), ((), 1))), False)

    def test_twenty_pieces_and_one_more(self):
        row = (0, 1, 1)
        self.check(THIN, ((20, 40), ((row, 1),) * 20), True)
        self.check(THIN, ((21, 42), ((row, 1),) * 21), False)
        self.check(THIN, ((21, 42), ((row, 1),) * 19 + ((row, 2),)), True)
        self.check(THIN, ((2, 4), ()), False)

    def test_times_as_great_as_may_be_and_beyond(self):
        self.check(SLACK, ((TOP, TOP), (((0, 1), TOP),)), True)
        self.check(SLACK, ((TOP + 1, TOP + 1), (((0, 1), TOP + 1),)), False)
        self.check(SLACK, ((TOP + 1, TOP + 1), (((0, 1), TOP), ((0, 1), 1))), False)
        self.check(SLACK, ((TOP, TOP), (((0, 1), TOP - 1), ((0, 1), 1))), True)
        self.check(SLACK, ((TOP, TOP), (((0, 1), HUGE),)), False)
        self.check(THIN, ((TOP // 2, TOP), (((0, 1, 1), TOP // 2),)), True)
        self.check(THIN, ((TOP, 2 * TOP), (((0, 1, 1), TOP),)), False)

    def test_a_whole_that_only_ties_with_the_best_order(self):
        self.check(THIN, ((1, 2), (((0, 1, 1), 1),)), False)
        books = [book for kinds in range(1, 7) for book in some_books(12, kinds, 100 + kinds)]
        for at, book in enumerate(books):
            for record in some_records(book, 2, 9, at) + some_records(book, 1, TOP, at):
                wholes = wholes_by_orders(book, record)
                best = orders_of(book)[wholes.index(min(wholes))]
                pieces = tuple(((place,), record[place]) for place in best if record[place] > 0)
                self.assertEqual(pieces_record(book, pieces), record)
                self.check(book, (record, pieces), False)

    def test_any_pieces_are_judged_by_all_orders(self):
        numbers = random.Random(3)
        right = 0
        for at, book in enumerate(unlevel_books(some_books(400, 4, 111))[:120]):
            for record in some_records(book, 3, 4, at):
                row = [place for place, number in enumerate(record) for _ in range(number)]
                numbers.shuffle(row)
                pieces = ((tuple(row), 1),)
                smaller = whole_by_hand(book, row) < min(wholes_by_orders(book, record))
                right += smaller
                self.check(book, (record, pieces), smaller)
        self.assertGreater(right, 0)

    def test_parts_by_which_every_order_but_one_is_beaten_are_none(self):
        # By (1, 0) the record takes 24, by (0, 1) 20, and 20 is the least.
        self.assertEqual([order_whole(SLACK, order, (2, 3)) for order in ((0, 1), (1, 0))], [20, 24])
        self.check(SLACK, ((2, 3), (((0,), 2), ((1,), 3))), False)
        self.check(SLACK, ((2, 3), (((0, 1), 2), ((1,), 1))), False)

    def test_kinds_without_a_field_change_nothing(self):
        self.check(THIN + ((64, 64), (1, 1)), ((2, 4, 0, 0), TWELVE[1]), True)
        self.check(((64, 64),) + THIN, ((0, 2, 4), (((1, 2, 2), 2),)), True)


class WhatDecidesTest(unittest.TestCase):
    """What [D4] and [D5] tell."""

    def check_records(self, book, most, least_of):
        """Look at all records with few fields, and at all orders; least_of tells the least whole of a record."""
        least_by = {order: True for order in orders_of(book)}
        of_rooms = True
        for record in all_records(len(book), most):
            least = least_of(book, record)
            of_rooms = of_rooms and least == rooms_whole(book, record)
            for order in least_by:
                least_by[order] = least_by[order] and order_whole(book, order, record) == least
        with self.subTest(book=book):
            if level_error(book) is None:
                self.assertTrue(of_rooms)
                self.assertTrue(all(least_by[order] for order in falling_orders(book)))
            else:
                self.assertFalse(any(least_by.values()))
                self.assertFalse(of_rooms)

    def test_two_small_kinds(self):
        for book in small_books(2, (1, 2, 4), 5):
            self.check_records(book, 6, least_whole)

    def test_two_small_kinds_by_all_rows(self):
        for book in small_books(2, (1, 2, 4), 5):
            if level_error(book) is None:
                self.check_records(book, 3, least_of_all_rows)

    def test_three_small_kinds_by_all_rows(self):
        for book in small_books(3, (2, 4), 3)[::3]:
            if level_error(book) is None:
                self.check_records(book, 2, least_of_all_rows)

    def test_level_books_have_their_rooms_whole_by_each_falling_order(self):
        for kinds in range(1, 7):
            for at, book in enumerate(some_level_books(25, kinds, 120 + kinds)):
                for record in some_records(book, 3, 9, at) + some_records(book, 2, TOP, at):
                    for order in falling_orders(book)[:30]:
                        self.assertEqual(order_whole(book, order, record), rooms_whole(book, record))

    def test_no_order_of_other_books_is_least_and_it_may_be_so_by_as_much_as_one_likes(self):
        for kinds in range(2, 6):
            for book in unlevel_books(some_books(100, kinds, 130 + kinds))[:25]:
                record, ((row, times),) = beaten(book)
                gains = []
                for more in (1, 10, 1000, 10 ** 20):
                    many = tuple(more * number for number in record)
                    laid = pieces_whole(book, ((row, more * times),))
                    gains.append(min(order_whole(book, order, many) for order in orders_of(book)) - laid)
                with self.subTest(book=book):
                    self.assertGreater(gains[0], 0)
                    self.assertTrue(gains[1] > 9 and gains[2] > 999 and gains[3] > 10 ** 20 - 1)

    def test_how_far_a_row_of_a_level_book_stays_behind_its_rooms(self):
        for kinds in range(1, 7):
            numbers = random.Random(kinds)
            for book in some_level_books(40, kinds, 140 + kinds):
                row = [numbers.randrange(kinds) for _ in range(30)]
                end = together = 0
                for place in row:
                    end += -end % book[place][1] + book[place][0]
                    together += rooms(book)[place]
                    self.assertLess(together - end, unit(book))

    def test_x_and_so_many_y_save_the_power_of_y(self):
        for book in unlevel_books(some_books(200, 4, 150)):
            x, y = level_error(book)
            room = rooms(book)[y]
            saved = room & -room
            self.assertTrue(book[y][1] <= saved < book[x][1] and saved <= lacks(book)[x])


if __name__ == "__main__":
    unittest.main()

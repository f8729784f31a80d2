import itertools
import unittest

from fallingfields.books import record_error
from fallingfields.errors import Unfit, Unlevel
from fallingfields.levels import level_error
from fallingfields.orders import falling_orders, order_whole
from fallingfields.peaks import greatest_excess, peak_error, peak_record
from fallingfields.pieces import pieces_whole
from fallingfields.rooms import rooms, rooms_whole
from samples import (
    ALIGNMENTS, TOP, TRIO, all_records, next_multiple, orders_of, pieces_whole_by_doubling, room_by_hand, small_books,
    some_books, some_level_books, some_records, unlevel_pairs,
)

ODD = ((5, 4), (2, 2))
ORDERS_OF_THREE = ((0, 1, 2), (0, 2, 1), (1, 0, 2), (1, 2, 0), (2, 0, 1), (2, 1, 0))
STEPS = ((1, 1), (64, 64), (1, 1), (32, 32), (1, 1))


def peaks(book, order):
    """Return all peaks of order, each triple of places looked at."""
    return [
        (i, j, k) for i, j, k in itertools.product(range(len(book)), repeat=3)
        if order.index(i) < order.index(j) < order.index(k)
        and book[j][1] > book[i][1] and book[j][1] > book[k][1]
        and room_by_hand(book[i]) % book[j][1] != 0 and room_by_hand(book[k]) % book[j][1] != 0
    ]


def excess(book, order, record):
    """Return by how much record is larger by order than its rooms, rounded up."""
    pieces = [((place,), record[place]) for place in order if record[place] > 0]
    return pieces_whole_by_doubling(book, pieces) - rooms_whole(book, record)


def greatest_excess_by_rests(book, order):
    """Return the greatest excess found by going through all rests of the rooms, and all that may be rounded up."""
    most = 0
    for top in {alignment for _, alignment in book}:
        states = {(0, 0, False)}
        for place in order:
            alignment = book[place][1]
            if alignment <= top:
                grown = set(states)
                for rest, lost, there in states:
                    more = -(rest + lost) % alignment
                    for number in range(1, top + 1):
                        grown.add(((rest + number * rooms(book)[place]) % top, lost + more, there or alignment == top))
                states = grown
        for rest, lost, there in states:
            if there:
                most = max(most, next_multiple(rest + lost, top) - next_multiple(rest, top))
    return most


def some_orders(book, many, at):
    """Return some orders of book: where there are many, each so many apart."""
    orders = orders_of(book)
    return orders[at % max(1, len(orders) // many)::max(1, len(orders) // many)]


def level_and_small():
    """Return small level books of three kinds, and of four, of many lots of alignments."""
    three = small_books(3, (1, 2, 4), 4)[::5] + small_books(3, (2, 8), 8)[::29] + small_books(3, (1, 4, 8), 4)[::7]
    four = small_books(4, (1, 2, 4), 2)[::19] + small_books(4, (1, 4), 4)[::41]
    return [book for book in three + four if not unlevel_pairs(book)]


class OverOrders:
    """Tests that see a check hold for many level books and their orders."""

    def test_all_orders_of_small_level_books(self):
        for book in level_and_small():
            for order in orders_of(book):
                self.check(book, order)

    def test_orders_of_one_kind_to_six(self):
        for kinds in range(1, 7):
            for at, book in enumerate(some_level_books(60, kinds, 200 + kinds)):
                for order in some_orders(book, 24, at):
                    self.check(book, order)


class PeakErrorTest(OverOrders, unittest.TestCase):
    def check(self, book, order):
        with self.subTest(book=book, order=order):
            found = peaks(book, order)
            self.assertEqual(repr(peak_error(book, order)), repr(min(found) if found else None))

    def test_examples(self):
        told = [peak_error(TRIO, order) for order in ORDERS_OF_THREE]
        self.assertEqual(told, [(0, 1, 2), None, None, None, None, (2, 1, 0)])
        self.assertIsNone(peak_error(((2, 2), (8, 8), (8, 4)), (0, 1, 2)))
        self.assertEqual(peak_error(((1, 1), (2, 2), (4, 4), (1, 1)), (0, 1, 2, 3)), (0, 1, 3))
        self.assertEqual(peak_error(((1, 1), (4, 4), (1, 1)), (2, 1, 0)), (2, 1, 0))

    def test_one_kind_and_two_have_no_peak(self):
        for kinds in (1, 2):
            for book in some_level_books(60, kinds, 210 + kinds):
                for order in orders_of(book):
                    self.assertIsNone(peak_error(book, order))

    def test_alignments_alike_are_no_peak(self):
        for book in (((3, 4),) * 3, ((4, 4), (4, 4), (1, 1)), ((1, 1), (4, 4), (4, 4)), ((4, 4), (8, 8), (24, 8))):
            for order in ((0, 1, 2), (2, 1, 0)):
                self.assertIsNone(peak_error(book, order))
        self.assertEqual(peak_error(((1, 1), (4, 4), (4, 4), (1, 1)), (0, 2, 1, 3)), (0, 1, 3))

    def test_rooms_that_are_multiples_are_no_peak(self):
        self.assertIsNone(peak_error(((8, 1), (8, 8), (4, 4)), (0, 1, 2)))
        self.assertIsNone(peak_error(((4, 4), (8, 8), (TOP, 2)), (0, 1, 2)))
        self.assertEqual(peak_error(((12, 4), (8, 8), (TOP - 4, 4)), (0, 1, 2)), (0, 1, 2))
        self.assertIsNone(peak_error(((12, 4), (8, 8), (TOP, 4)), (0, 1, 2)))

    def test_not_always_side_by_side(self):
        book = ((2, 2), (4, 4), (8, 8), (16, 16), (2, 2))
        self.assertEqual(peak_error(book, (0, 1, 2, 3, 4)), (0, 1, 4))
        self.assertEqual(peak_error(book, (0, 3, 2, 1, 4)), (0, 1, 4))
        self.assertEqual(peak_error(book, (1, 2, 0, 4, 3)), (1, 2, 0))
        self.assertIsNone(peak_error(book, (3, 2, 0, 4, 1)))

    def test_unlevel(self):
        for call in (peak_error, peak_record, greatest_excess):
            with self.assertRaises(Unlevel) as caught:
                call(ODD, (0, 1))
            self.assertEqual(caught.exception.pair, (0, 1))

    def test_unlevel_with_a_peak_and_without(self):
        with_a_peak = without = 0
        for book in some_books(150, 5, 220):
            if unlevel_pairs(book):
                for order in some_orders(book, 6, len(book)):
                    with_a_peak += peaks(book, order) != []
                    without += peaks(book, order) == []
                    for call in (peak_error, peak_record, greatest_excess):
                        with self.subTest(book=book, order=order):
                            with self.assertRaises(Unlevel) as caught:
                                call(book, order)
                            self.assertEqual(repr(caught.exception.pair), repr(level_error(book)))
        self.assertTrue(with_a_peak > 50 and without > 50)


class PeakRecordTest(OverOrders, unittest.TestCase):
    def check(self, book, order):
        with self.subTest(book=book, order=order):
            if peaks(book, order):
                record = peak_record(book, order)
                self.assertIsNone(record_error(book, record))
                self.assertGreater(excess(book, order, record), 0)
            else:
                with self.assertRaises(Unfit):
                    peak_record(book, order)

    def test_examples(self):
        few = peak_record(TRIO, (0, 1, 2))
        self.assertGreater(order_whole(TRIO, (0, 1, 2), few), order_whole(TRIO, (1, 2, 0), few))
        with self.assertRaises(Unfit):
            peak_record(TRIO, (1, 0, 2))

    def test_each_three_alignments_and_odd_rooms(self):
        for low, high, other in itertools.product(ALIGNMENTS, repeat=3):
            for many in (1, 3, 31, 63):
                self.check(((many * low, low), (high, high), (5 * other, other)), (0, 1, 2))
                self.check(((TOP - many * low, low), (TOP, high), (7 * other, other)), (0, 1, 2))


class GreatestExcessTest(unittest.TestCase):
    def check_all_records(self, book):
        """Judge all orders of book by all records that leave unlike rests, the greatest alignment being small."""
        records = all_records(len(book), max(alignment for _, alignment in book))
        wholes = {record: rooms_whole(book, record) for record in records}
        for order in orders_of(book):
            most = max(order_whole(book, order, record) - wholes[record] for record in records)
            with self.subTest(book=book, order=order):
                told = greatest_excess(book, order)
                self.assertEqual(repr(told), repr(most))
                self.assertEqual(told == 0, not peaks(book, order))

    def test_examples(self):
        self.assertEqual([greatest_excess(TRIO, order) for order in ((0, 1, 2), (1, 2, 0), (2, 1, 0))], [8, 0, 8])
        self.assertEqual(greatest_excess(((1, 1), (4, 4), (1, 1)), (0, 1, 2)), 4)
        self.assertEqual(greatest_excess(((1, 1), (2, 2), (4, 4), (1, 1)), (0, 1, 2, 3)), 4)
        self.assertEqual(greatest_excess(STEPS, (0, 1, 2, 3, 4)), 128)

    def test_small_books_against_all_records(self):
        for book in level_and_small():
            if max(alignment for _, alignment in book) <= 4 or book[0][0] % 3 == 0:
                self.check_all_records(book)

    def test_against_all_rests(self):
        for kinds in range(3, 7):
            for at, book in enumerate(some_level_books(10, kinds, 240 + kinds, (1, 2, 4, 8, 16))):
                for order in some_orders(book, 4, at):
                    with self.subTest(book=book, order=order):
                        self.assertEqual(greatest_excess(book, order), greatest_excess_by_rests(book, order))

    def test_steps_against_all_rests(self):
        coarse = ((4, 4), (64, 64), (4, 4), (32, 32), (4, 4), (12, 4))
        for order in ((0, 1, 2, 3, 4, 5), (0, 3, 2, 1, 4, 5), (5, 3, 1, 0, 2, 4)):
            self.assertEqual(greatest_excess(coarse, order), greatest_excess_by_rests(coarse, order))

    def test_a_field_of_the_greatest_alignment_rounds_up_further(self):
        for order in orders_of(((1, 1),) * 4):
            book = ((1, 1), (8, 8), (1, 1), (64, 64))
            self.assertEqual(greatest_excess(book, order), greatest_excess_by_rests(book, order))
        self.assertEqual(greatest_excess(book, (0, 1, 2, 3)), 64)
        self.assertEqual(greatest_excess(book, (3, 0, 1, 2)), 64)
        self.assertEqual(greatest_excess(((1, 1), (8, 8), (1, 1), (64, 8)), (0, 1, 2, 3)), 8)

    def test_nought_just_where_there_is_no_peak(self):
        for kinds in range(1, 7):
            for at, book in enumerate(some_level_books(40, kinds, 250 + kinds)):
                for order in some_orders(book, 12, at):
                    with self.subTest(book=book, order=order):
                        self.assertEqual(greatest_excess(book, order) == 0, not peaks(book, order))

    def test_six_kinds_of_all_alignments_and_great_rooms(self):
        # Many calls: each of these books has all orders at once.
        for book in (
            ((TOP - 1, 1), (TOP - 2, 2), (TOP - 4, 4), (TOP - 8, 8), (TOP - 32, 32), (TOP, 64)),
            ((1, 1), (2, 2), (4, 4), (8, 8), (16, 16), (64, 64)),
            ((TOP - 1, 1), (TOP - 3, 1), (TOP - 5, 1), (TOP - 7, 1), (TOP - 9, 1), (TOP, 64)),
        ):
            told = {order: greatest_excess(book, order) for order in orders_of(book)}
            self.assertEqual([order for order in told if told[order] == 0],
                             [order for order in told if not peaks(book, order)])
            self.assertTrue(all(most % 2 == 0 and most < 64 * 6 for most in told.values()))

    def test_no_record_is_further_beyond(self):
        for kinds in range(3, 7):
            for at, book in enumerate(some_level_books(30, kinds, 260 + kinds)):
                for order in some_orders(book, 4, at):
                    most = greatest_excess(book, order)
                    for record in some_records(book, 6, 63, at) + some_records(book, 2, TOP, at):
                        with self.subTest(book=book, order=order, record=record):
                            self.assertLessEqual(excess(book, order, record), most)


class WhatHoldsTest(unittest.TestCase):
    """What [E5] tells."""

    def test_least_exactly_without_a_peak(self):
        for book in level_and_small():
            if max(alignment for _, alignment in book) <= 4:
                records = all_records(len(book), 4)
                for order in orders_of(book):
                    least = all(order_whole(book, order, record) == rooms_whole(book, record) for record in records)
                    with self.subTest(book=book, order=order):
                        self.assertEqual(least, peak_error(book, order) is None)

    def test_each_peak_takes_its_alignment_more(self):
        for kinds in range(3, 7):
            for at, book in enumerate(some_level_books(40, kinds, 270 + kinds)):
                for order in some_orders(book, 6, at):
                    for _, j, _ in peaks(book, order):
                        self.assertGreaterEqual(greatest_excess(book, order), book[j][1])

    def test_falling_rising_and_falling_then_rising_orders_are_least(self):
        for kinds in range(1, 7):
            for at, book in enumerate(some_level_books(25, kinds, 280 + kinds)):
                for order in orders_of(book):
                    steps = [book[y][1] - book[x][1] for x, y in zip(order, order[1:]) if book[x][1] != book[y][1]]
                    if steps == sorted(steps, key=lambda step: step > 0):
                        self.assertIsNone(peak_error(book, order))
                for order in falling_orders(book)[:5]:
                    for record in some_records(book, 2, 9, at):
                        self.assertEqual(order_whole(book, order[::-1], record), rooms_whole(book, record))

    def test_it_hangs_on_rests_alone(self):
        for at, book in enumerate(some_level_books(60, 4, 290)):
            more = tuple(
                (min(size, TOP - 64 * 9) + 64 * place, alignment) for place, (size, alignment) in enumerate(book)
            )
            if [room % 64 for room in rooms(more)] == [room % 64 for room in rooms(book)] and not unlevel_pairs(more):
                for order in some_orders(book, 6, at):
                    with self.subTest(book=book, more=more, order=order):
                        self.assertEqual(greatest_excess(more, order), greatest_excess(book, order))

    def test_it_is_a_piece_for_each_kind(self):
        for at, book in enumerate(some_level_books(40, 5, 300)):
            for record in some_records(book, 3, TOP, at):
                for order in some_orders(book, 6, at):
                    pieces = tuple(((place,), record[place]) for place in order if record[place] > 0)
                    self.assertEqual(order_whole(book, order, record), pieces_whole(book, pieces))


if __name__ == "__main__":
    unittest.main()

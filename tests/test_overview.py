import itertools
import unittest

from fallingfields.floors import floor_pieces, needed, shares
from fallingfields.laying import row_padding, row_whole
from fallingfields.leasts import least_whole
from fallingfields.levels import beaten, beaten_holds, level_error
from fallingfields.mends import least_lot, level_lots, rounded
from fallingfields.orders import falling_orders, order_whole
from fallingfields.peaks import greatest_excess, peak_error, peak_record
from fallingfields.pieces import pieces_record, pieces_whole
from fallingfields.rooms import rooms_whole
from samples import (
    TOP, all_records, lack_by_hand, orders_of, power_by_hand, room_by_hand, rooms_whole_by_hand, small_books,
    some_books, some_level_books, some_records, some_rows,
)


def is_level(book):
    """Return whether each kind lacks less than the greatest power of 2 that divides all sizes rounded up."""
    power = min(power_by_hand(room_by_hand(kind)) for kind in book)
    return all(lack_by_hand(kind) < power for kind in book)


def stands_between(book, order):
    """Return whether a kind of greater alignment stands between two lesser ones with rooms that are no multiples."""
    for ahead, middle, behind in itertools.combinations(order, 3):
        top = book[middle][1]
        lesser = [place for place in (ahead, behind) if book[place][1] < top and room_by_hand(book[place]) % top != 0]
        if len(lesser) == 2:
            return True
    return False


def small():
    """Return small books of two kinds and of three."""
    return small_books(2, (1, 2, 4), 4) + small_books(3, (1, 2, 4), 2)[::5] + small_books(3, (2, 4), 4)[::23]


class OverviewTest(unittest.TestCase):
    """What [A2] tells of each book, line by line, over the whole program."""

    def test_a_one_order_is_least_for_all_records_exactly_if_each_kind_lacks_less(self):
        for book in small():
            records = all_records(len(book), 6 if len(book) == 2 else 4)
            leasts = {record: least_whole(book, record) for record in records}
            least_orders = [
                order for order in orders_of(book)
                if all(order_whole(book, order, record) == leasts[record] for record in records)
            ]
            with self.subTest(book=book):
                if is_level(book):
                    self.assertNotEqual(least_orders, [])
                elif len(book) == 2:
                    self.assertEqual(least_orders, [])
                self.assertEqual(level_error(book) is None, is_level(book))

    def test_a_of_many_books(self):
        for kinds in range(1, 7):
            for book in some_books(100, kinds, 950 + kinds) + some_level_books(50, kinds, 960 + kinds):
                self.assertEqual(level_error(book) is None, is_level(book))

    def test_b_each_falling_order_is_least_and_the_least_size_is_that_of_the_rooms(self):
        for book in small():
            if is_level(book):
                for record in all_records(len(book), 3):
                    least = least_whole(book, record)
                    self.assertEqual(least, rooms_whole_by_hand(book, record))
                    self.assertEqual(least, rooms_whole(book, record))
                    for order in falling_orders(book):
                        self.assertEqual(order_whole(book, order, record), least)

    def test_c_an_order_is_least_exactly_if_no_greater_kind_stands_between_two_lesser_ones(self):
        for at, book in enumerate(small_books(3, (1, 2, 4), 3)[::7] + some_level_books(60, 4, 970)):
            if is_level(book):
                for order in orders_of(book):
                    between = stands_between(book, order)
                    with self.subTest(book=book, order=order):
                        self.assertEqual(peak_error(book, order) is not None, between)
                        self.assertEqual(greatest_excess(book, order) > 0, between)
                        if between:
                            record = peak_record(book, order)
                            self.assertGreater(order_whole(book, order, record), rooms_whole(book, record))
                        for record in [] if between else some_records(book, 3, 9, at):
                            self.assertEqual(order_whole(book, order, record), rooms_whole(book, record))

    def test_d_otherwise_each_order_is_larger_by_as_much_as_one_likes(self):
        for book in small() + some_books(60, 5, 980):
            if not is_level(book):
                _, ((row, times),) = beaten(book)
                for more in (1, 100, 10 ** 20):
                    pieces = ((row, times * more),)
                    record = pieces_record(book, pieces)
                    self.assertTrue(beaten_holds(book, (record, pieces)))
                    for order in orders_of(book):
                        gained = order_whole(book, order, record) - pieces_whole(book, pieces)
                        self.assertGreaterEqual(gained, more)

    def test_e_the_shares_are_lost_in_every_layout_and_no_more_need_be(self):
        for at, book in enumerate(small() + some_books(150, 5, 990)):
            power = min(power_by_hand(room_by_hand(kind)) for kind in book)
            lost = [lack_by_hand(kind) % power for kind in book]
            self.assertEqual(shares(book), tuple(lost))
            for row in some_rows(book, 2, 40, at):
                self.assertGreaterEqual(row_padding(book, row), sum(lost[place] for place in row))
            finest = [place for place, kind in enumerate(book) if power_by_hand(room_by_hand(kind)) == power][0]
            record = tuple(10 ** 20 if place == finest else 3 + at % 5 for place in range(len(book)))
            self.assertLess(dict(needed(book, record))[finest], 10 ** 20)
            sizes = sum(number * (size + share) for number, (size, _), share in zip(record, book, lost))
            top = max(alignment for _, alignment in book)
            self.assertEqual(pieces_whole(book, floor_pieces(book, record)), sizes + -sizes % top)

    def test_f_one_lot_stands_in_all_others(self):
        for book in small() + some_books(100, 6, 1000):
            lots = level_lots(book)
            least = [lot for lot in lots if all(set(lot) <= set(other) for other in lots)]
            self.assertEqual(least, [least_lot(book)])
            self.assertTrue(is_level(rounded(book, least[0])))
            for place in least[0]:
                without = tuple(other for other in least[0] if other != place)
                self.assertFalse(is_level(rounded(book, without)))


class SameEverywhereTest(unittest.TestCase):
    """The same things, told by different modules."""

    def test_wholes_of_one_record(self):
        for at, book in enumerate(some_level_books(60, 4, 1010)):
            for record in some_records(book, 3, 3, at):
                row = tuple(place for place in falling_orders(book)[0] for _ in range(record[place]))
                told = {
                    row_whole(book, row), pieces_whole(book, ((row, 1),)), least_whole(book, record),
                    order_whole(book, falling_orders(book)[0], record), rooms_whole(book, record),
                    pieces_whole(book, floor_pieces(book, record)),
                }
                self.assertEqual(len(told), 1)

    def test_numbers_as_great_as_may_be(self):
        book = ((TOP, 64),) * 6
        self.assertEqual(order_whole(book, (0, 1, 2, 3, 4, 5), (TOP,) * 6), 6 * TOP * TOP)
        self.assertEqual(pieces_whole(book, floor_pieces(book, (TOP,) * 6)), rooms_whole(book, (TOP,) * 6))


if __name__ == "__main__":
    unittest.main()

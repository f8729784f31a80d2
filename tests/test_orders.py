import itertools
import unittest

from fallingfields.laying import row_whole
from fallingfields.orders import falling_orders, order_whole
from fallingfields.pieces import pieces_whole
from fallingfields.rooms import rooms_whole
from samples import ALIGNMENTS, CALM, SIX, TOP, TRIO, orders_of, some_books, some_records, whole_by_hand

ODD = ((5, 4), (2, 2))
ORDERS_OF_THREE = ((0, 1, 2), (0, 2, 1), (1, 0, 2), (1, 2, 0), (2, 0, 1), (2, 1, 0))


def row_by(order, record):
    """Return record as a row by order."""
    return tuple(place for place in order for _ in range(record[place]))


def pieces_by(order, record):
    """Return record as pieces by order, a piece for each kind."""
    return tuple(((place,), record[place]) for place in order if record[place] > 0)


class OrderWholeTest(unittest.TestCase):
    def check_few(self, book, order, record):
        """Compare the whole by order with the row of these fields."""
        with self.subTest(book=book, order=order, record=record):
            told = order_whole(book, order, record)
            self.assertEqual(repr(told), repr(whole_by_hand(book, row_by(order, record))))
            self.assertEqual(told, row_whole(book, row_by(order, record)))
            self.assertEqual(told, pieces_whole(book, pieces_by(order, record)))

    def check_many(self, book, order, record):
        """Compare the whole by order with a piece for each kind."""
        with self.subTest(book=book, order=order, record=record):
            told = order_whole(book, order, record)
            self.assertEqual(repr(told), repr(pieces_whole(book, pieces_by(order, record))))

    def test_examples(self):
        wholes = [order_whole(TRIO, order, (1, 1, 1)) for order in ORDERS_OF_THREE]
        self.assertEqual(wholes, [24, 16, 16, 16, 16, 24])
        self.assertEqual(order_whole(ODD, (0, 1), (2, 3)), 20)
        self.assertEqual(order_whole(ODD, (1, 0), (2, 3)), 24)
        self.assertEqual(order_whole(ODD, (1, 0), (0, 1)), 2)
        self.assertEqual(order_whole(ODD, (0, 1), (TOP, 0)), 8 * TOP)

    def test_each_order_of_one_kind_to_six(self):
        for kinds in range(1, 7):
            for at, book in enumerate([SIX[:kinds], SIX[-kinds:], CALM[:1] * kinds] + some_books(3, 6, kinds)):
                few = some_records(book, 2, 5, at) + [(1,) * len(book)]
                many = some_records(book, 1, TOP, at) + [(TOP,) * len(book)]
                for order in orders_of(book):
                    for record in few:
                        self.check_few(book, order, record)
                    for record in many:
                        self.check_many(book, order, record)

    def test_many_books_and_records(self):
        for at, book in enumerate(some_books(200, 4, 21)):
            records = some_records(book, 4, 16, at)
            for order in orders_of(book):
                for record in records:
                    self.check_few(book, order, record)
                for record in some_records(book, 2, TOP, at):
                    self.check_many(book, order, record)

    def test_kinds_without_a_field_are_passed_over(self):
        book = ((1, 64), (3, 2), (1, 1))
        for order in orders_of(book):
            self.assertEqual(order_whole(book, order, (0, 0, 3)), 3)
            self.assertEqual(order_whole(book, order, (0, 2, 0)), 8)
            self.assertEqual(order_whole(book, order, (5, 0, 0)), 320)
        self.assertEqual(order_whole(book, (2, 0, 1), (0, 1, 1)), 6)
        self.assertEqual(order_whole(book, (1, 0, 2), (0, 1, 1)), 4)

    def test_a_hundred_fields(self):
        for order in orders_of(SIX)[::7]:
            self.check_few(SIX, order, (17, 17, 17, 17, 16, 16))
            self.check_few(SIX, order, (95, 1, 1, 1, 1, 1))

    def test_one_kind_alone_has_its_rooms(self):
        for alignment in ALIGNMENTS:
            for size in (1, alignment, alignment + 1, TOP - 1, TOP):
                for many in (1, 2, 64, TOP):
                    book = ((size, alignment),)
                    self.assertEqual(order_whole(book, (0,), (many,)), rooms_whole(book, (many,)))

    def test_falling_orders_have_at_most_the_whole_of_rooms(self):
        for at, book in enumerate(some_books(150, 5, 22)):
            for record in some_records(book, 3, 9, at) + some_records(book, 2, TOP, at):
                for order in falling_orders(book):
                    self.assertLessEqual(order_whole(book, order, record), rooms_whole(book, record))


class FallingOrdersTest(unittest.TestCase):
    def check_book(self, book):
        """Compare the falling orders with those found by looking at all orders, pair by pair."""
        falling = []
        for order in sorted(orders_of(book)):
            if all(book[x][1] >= book[y][1] for x, y in itertools.combinations(order, 2)):
                falling.append(order)
        with self.subTest(book=book):
            self.assertEqual(repr(falling_orders(book)), repr(tuple(falling)))

    def test_examples(self):
        self.assertEqual(falling_orders(TRIO), ((1, 2, 0),))
        self.assertEqual(falling_orders(ODD), ((0, 1),))
        self.assertEqual(falling_orders(((4, 4), (2, 2), (3, 4))), ((0, 2, 1), (2, 0, 1)))
        self.assertEqual(len(falling_orders(((1, 1),) * 5)), 120)

    def test_one_alignment(self):
        for kinds, many in ((1, 1), (2, 2), (3, 6), (4, 24), (5, 120), (6, 720)):
            for book in (((5, 8),) * kinds, tuple((size, 8) for size in range(10, 10 + kinds))):
                self.assertEqual(len(falling_orders(book)), many)
                self.assertEqual(falling_orders(book), tuple(sorted(orders_of(book))))

    def test_each_choice_of_alignments(self):
        for kinds in range(1, 7):
            most = (1, 2, 4) if kinds > 4 else (1, 2, 16, 64)
            for alignments in itertools.product(most, repeat=kinds):
                self.check_book(tuple((3 + place % 2, alignment) for place, alignment in enumerate(alignments)))

    def test_all_alignments_are_unlike(self):
        for alignments in itertools.permutations(ALIGNMENTS[1:]):
            book = tuple((1, alignment) for alignment in alignments)
            order = tuple(sorted(range(6), key=lambda place: -alignments[place]))
            self.assertEqual(falling_orders(book), (order,))

    def test_many_books(self):
        for book in [SIX, CALM * 3] + some_books(60, 6, 23):
            self.check_book(book)


if __name__ == "__main__":
    unittest.main()

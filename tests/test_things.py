import unittest

from fallingfields.books import book_error
from fallingfields.bounds import MAX_SIZE
from fallingfields.errors import TooMany, Unlevel
from fallingfields.laying import laid
from fallingfields.leasts import least_whole
from fallingfields.levels import level_error
from fallingfields.rooms import lacks, rooms, rooms_whole, unit
from fallingfields.things import array_kind, keeps_level, record_kind
from samples import (
    ALIGNMENTS, SIX, TOP, lack_by_hand, power_by_hand, room_by_hand, rooms_whole_by_hand, sizes_about, some_books,
    some_level_books, some_records, unlevel_pairs,
)

WIRE, WIDE, BITS = ((6, 4), (3, 2)), ((6, 4), (3, 2), (14, 8)), ((6, 4), (1, 1))


class ThingsTest(unittest.TestCase):
    def too_many(self, call, *arguments):
        with self.subTest(call=call.__name__, arguments=arguments):
            with self.assertRaises(TooMany) as caught:
                call(*arguments)
            self.assertEqual(repr(caught.exception.limit), repr(MAX_SIZE))

    def unlevel(self, call, book, *arguments):
        with self.subTest(call=call.__name__, book=book):
            with self.assertRaises(Unlevel) as caught:
                call(book, *arguments)
            self.assertEqual(repr(caught.exception.pair), repr(min(unlevel_pairs(book))))


class ArrayKindTest(ThingsTest):
    def test_examples(self):
        told = [array_kind((6, 4), 3), array_kind((3, 2), 1), array_kind((4, 4), 10)]
        self.assertEqual(told, [(22, 4), (3, 2), (40, 4)])
        self.assertEqual(array_kind((10 ** 15, 1), 10 ** 15), (10 ** 30, 1))
        self.too_many(array_kind, (6, 4), 10 ** 30)

    def test_it_ends_where_the_last_field_ends(self):
        for alignment in ALIGNMENTS:
            for size in sizes_about(alignment):
                for many in (1, 2, 3, 63, 64, 65, 100):
                    kind = (size, alignment)
                    end = laid((kind,), (0,) * many)[-1][1]
                    with self.subTest(kind=kind, many=many):
                        if end > MAX_SIZE:
                            self.too_many(array_kind, kind, many)
                        else:
                            self.assertEqual(repr(array_kind(kind, many)), repr((end, alignment)))
                            self.assertIsNone(book_error((array_kind(kind, many),)))

    def test_of_one_field_it_is_the_kind(self):
        for kind in SIX + ((TOP, 1), (TOP - 1, 64), (1, 64)):
            self.assertEqual(array_kind(kind, 1), kind)

    def test_as_many_as_may_be(self):
        self.assertEqual(array_kind((1, 1), TOP), (TOP, 1))
        for kind in ((2, 1), (1, 2), (3, 1), (1, 64), (TOP, 1), (TOP, 64)):
            self.too_many(array_kind, kind, TOP)

    def test_just_as_large_as_may_be_and_beyond(self):
        for alignment in ALIGNMENTS:
            rest = TOP // alignment
            self.assertEqual(array_kind((alignment, alignment), rest), (TOP, alignment))
            self.too_many(array_kind, (alignment, alignment), rest + 1)
            self.assertEqual(array_kind((TOP // 2, alignment), 2), (TOP, alignment))
            self.too_many(array_kind, (TOP // 2 + 1, alignment), 2)
        self.assertEqual(array_kind((1, 64), TOP // 64), (TOP - 63, 64))
        self.too_many(array_kind, (1, 64), TOP // 64 + 1)
        self.assertEqual(array_kind((7, 1), TOP // 7), (TOP // 7 * 7, 1))
        self.too_many(array_kind, (7, 1), TOP // 7 + 1)


class RecordKindTest(ThingsTest):
    def test_examples(self):
        told = [record_kind(WIRE, record) for record in ((1, 1), (2, 3), (0, 1), (0, 3))]
        self.assertEqual(told, [(12, 4), (28, 4), (4, 2), (12, 2)])
        self.assertEqual(record_kind(WIDE, (0, 1, 1)), (24, 8))
        self.unlevel(record_kind, BITS, (1, 1))
        self.too_many(record_kind, WIRE, (TOP, 0))

    def test_many_level_books(self):
        for kinds in range(1, 7):
            for at, book in enumerate(some_level_books(50, kinds, 600 + kinds)):
                for record in some_records(book, 3, 9, at) + some_records(book, 1, TOP, at):
                    size = rooms_whole_by_hand(book, record)
                    top = max(alignment for (_, alignment), number in zip(book, record) if number > 0)
                    with self.subTest(book=book, record=record):
                        if size > MAX_SIZE:
                            self.too_many(record_kind, book, record)
                        else:
                            self.assertEqual(repr(record_kind(book, record)), repr((size, top)))

    def test_it_is_the_least_whole(self):
        for at, book in enumerate(some_level_books(60, 3, 610)):
            for record in some_records(book, 3, 4, at):
                if rooms_whole(book, record) <= MAX_SIZE:
                    self.assertEqual(record_kind(book, record)[0], least_whole(book, record))

    def test_just_as_large_as_may_be_and_beyond(self):
        book = ((8, 8), (1, 1), (64, 64), (12, 4))
        self.assertEqual(record_kind(book, (0, TOP, 0, 0)), (TOP, 1))
        self.too_many(record_kind, book, (0, TOP, 0, 1))
        self.assertEqual(record_kind(book, (0, TOP - 8, 0, 0)), (TOP - 8, 1))
        self.assertEqual(record_kind(book, (1, TOP - 8, 0, 0)), (TOP, 8))
        self.assertEqual(record_kind(book, (1, TOP - 15, 0, 0)), (TOP, 8))
        self.too_many(record_kind, book, (1, TOP - 7, 0, 0))
        self.assertEqual(record_kind(book, (0, TOP - 127, 1, 0)), (TOP, 64))
        self.assertEqual(record_kind(book, (0, TOP - 64, 1, 0)), (TOP, 64))
        self.too_many(record_kind, book, (0, TOP - 63, 1, 0))
        self.assertEqual(record_kind(((TOP, 64),), (1,)), (TOP, 64))
        self.too_many(record_kind, ((TOP, 64),), (2,))
        self.too_many(record_kind, ((TOP, 64), (64, 64)), (1, 1))

    def test_unlevel_ahead_of_too_many(self):
        self.unlevel(record_kind, BITS, (TOP, TOP))
        self.unlevel(record_kind, BITS, (1, 0))
        self.unlevel(record_kind, ((1, 1), (TOP - 1, 64)), (0, 2))
        for at, book in enumerate(some_books(100, 5, 611)):
            if unlevel_pairs(book):
                for record in some_records(book, 1, 9, at) + [(TOP,) * len(book)]:
                    self.unlevel(record_kind, book, record)


class KeepsLevelTest(ThingsTest):
    def check(self, book, kind):
        with self.subTest(book=book, kind=kind):
            if unlevel_pairs(book):
                self.unlevel(keeps_level, book, kind)
            else:
                self.assertIs(keeps_level(book, kind), unlevel_pairs(book + (kind,)) == [])

    def test_examples(self):
        kinds = ((12, 4), (4, 1), (2, 1), (1, 1), (5, 8), (4, 8), (24, 8))
        self.assertEqual([keeps_level(WIRE, kind) for kind in kinds], [True, True, False, False, True, False, True])
        self.assertIs(keeps_level(WIRE * 3, (5, 8)), True)
        self.unlevel(keeps_level, BITS, (4, 4))

    def test_many_books_and_kinds(self):
        for at, book in enumerate(some_level_books(120, 4, 620) + some_books(80, 5, 621)):
            for kind in [kind for other in some_books(4, 3, at) for kind in other]:
                self.check(book, kind)

    def test_just_level_and_just_not(self):
        for least in (1, 2, 4, 8, 16, 32):
            book = ((128 - (least - 1), 64), (least, least))
            self.assertIsNone(level_error(book))
            for alignment in (a for a in ALIGNMENTS if a > least):
                self.assertIs(keeps_level(book, (3 * alignment - least + 1, alignment)), True)
                self.assertIs(keeps_level(book, (3 * alignment - least, alignment)), False)
            self.assertIs(keeps_level(book, (3 * least, 1)), True)
            if least > 1:
                self.assertIs(keeps_level(book, (3 * least // 2, 1)), False)
                self.assertIs(keeps_level(((64, 64), (least, least)), (3 * least // 2, 1)), True)

    def test_seven_kinds(self):
        for at, book in enumerate(some_level_books(60, 6, 622)):
            for kind in [kind for other in some_books(4, 3, at) for kind in other] + list(book):
                self.check(book, kind)

    def test_a_kind_of_a_level_book_keeps_it_level(self):
        for kinds in range(1, 7):
            for book in some_level_books(20, kinds, 630 + kinds):
                for kind in book:
                    self.assertIs(keeps_level(book, kind), True)


class WhatHoldsTest(unittest.TestCase):
    """What [H4] tells."""

    def test_exactly_if_its_lack_is_below_the_unit_and_all_lacks_below_its_power(self):
        for at, book in enumerate(some_level_books(150, 4, 640)):
            for kind in [kind for other in some_books(4, 3, at) for kind in other]:
                power = power_by_hand(room_by_hand(kind))
                right = lack_by_hand(kind) < unit(book) and all(lack < power for lack in lacks(book))
                with self.subTest(book=book, kind=kind):
                    self.assertIs(keeps_level(book, kind), right)

    def test_arrays_have_many_times_the_room_and_the_same_lack(self):
        for book in some_level_books(60, 3, 641):
            for kind in book:
                for many in (1, 2, 3, 64, 1000):
                    if many * room_by_hand(kind) <= MAX_SIZE:
                        array = array_kind(kind, many)
                        self.assertEqual(rooms((array,)), (many * room_by_hand(kind),))
                        self.assertEqual(lacks((array,)), (lack_by_hand(kind),))

    def test_records_lack_nothing_and_are_multiples_of_the_unit(self):
        for at, book in enumerate(some_level_books(120, 4, 642)):
            for record in some_records(book, 3, 9, at):
                if rooms_whole(book, record) <= MAX_SIZE:
                    kind = record_kind(book, record)
                    self.assertEqual(lacks((kind,)), (0,))
                    self.assertEqual(kind[0] % unit(book), 0)

    def test_arrays_of_records_of_arrays_keep_it_level(self):
        for at, book in enumerate(some_level_books(120, 3, 643)):
            for turn in range(3):
                for many in (2, 3, 5):
                    array = array_kind(book[turn % len(book)], many) if max(rooms(book)) < 10 ** 20 else book[0]
                    self.assertIs(keeps_level(book, array), True)
                    longer = book + (array,)
                    record = some_records(longer, 1, 7, at + turn)[0]
                    if rooms_whole(longer, record) <= MAX_SIZE:
                        kind = record_kind(longer, record)
                        self.assertIs(keeps_level(book, kind), True)
                        self.assertIs(keeps_level(longer, kind), True)
                        book = (book + (kind,))[-3:]

    def test_an_array_in_the_place_of_its_fields(self):
        for at, book in enumerate(some_level_books(80, 3, 644)):
            for record in some_records(book, 3, 9, at):
                for place, number in enumerate(record):
                    if number > 1 and number * rooms(book)[place] <= MAX_SIZE:
                        many = number // 2
                        with_array = book + (array_kind(book[place], many),)
                        fewer = record[:place] + (number - many,) + record[place + 1:]
                        whole = rooms_whole(book, record)
                        self.assertEqual(rooms_whole(with_array, fewer + (1,)), whole)
                        alone = record[:place] + (0,) + record[place + 1:]
                        if number % 2 == 0:
                            self.assertEqual(rooms_whole(with_array, alone + (2,)), whole)

    def test_an_array_has_the_same_least_whole_by_all_rows(self):
        book = ((5, 4), (4, 2))
        with_array = book + (array_kind((5, 4), 3),)
        for many, few in ((3, 1), (3, 2), (4, 2), (5, 3)):
            self.assertEqual(least_whole(with_array, (many - 3, few, 1)), least_whole(book, (many, few)))

    def test_records_as_kinds_are_no_less_than_their_fields(self):
        for at, book in enumerate(some_level_books(120, 3, 645)):
            for record in some_records(book, 2, 9, at):
                if rooms_whole(book, record) <= MAX_SIZE:
                    longer = book + (record_kind(book, record),)
                    for many in (1, 2, 3, 8):
                        fields = tuple(many * number for number in record)
                        whole = rooms_whole(longer, (0,) * len(book) + (many,))
                        self.assertGreaterEqual(whole, rooms_whole(book, fields))
        self.assertEqual(rooms_whole(WIDE, (0, 2, 2)), 40)
        self.assertEqual(rooms_whole((record_kind(WIDE, (0, 1, 1)),), (2,)), 48)


if __name__ == "__main__":
    unittest.main()

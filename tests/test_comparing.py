import itertools
import random
import unittest

from fallingfields.books import record_error
from fallingfields.comparing import larger_record
from fallingfields.errors import Unfit, Unlevel
from fallingfields.leasts import least_whole
from fallingfields.rooms import rooms, rooms_whole
from samples import (
    ALIGNMENTS, TOP, all_records, level_kind, room_by_hand, rooms_whole_by_hand, small_books, some_books,
    some_level_books, some_records, unlevel_pairs,
)

WORDS, HALVES, PACKED = ((4, 4), (2, 2)), ((4, 4), (1, 1)), ((4, 1), (2, 1))
# By the first one just records with fields of all four kinds are larger.
FOUR = (((32, 32), (26, 1), (24, 4), (16, 8)), ((44, 1), (31, 1), (30, 1), (22, 1)))


def by_rests(one, other):
    """Return whether some record is larger by one, found by going through all rests as [J3] tells."""
    if any(room > beside for room, beside in zip(rooms(one), rooms(other))):
        return True
    for a, b in itertools.product({kind[1] for kind in one}, {kind[1] for kind in other}):
        states = {(0, 0, False)}
        for (kind, beside), room, further in zip(zip(one, other), rooms(one), rooms(other)):
            if b < a and kind[1] <= a and beside[1] <= b:
                # From a more on nothing is larger, so it is told alike from there on.
                states |= {
                    ((rest + number * room) % a, min(a, more + number * (further - room)), there or kind[1] == a)
                    for rest, more, there in states for number in range(1, a + 1)
                }
        if b < a and any(there and rounds_up_further(rest, more, a, b) for rest, more, there in states):
            return True
    return False


def rounds_up_further(rest, more, a, b):
    """Return whether rest, rounded up to a, is above rest and more, rounded up to b."""
    return rest + -rest % a > rest + more + -(rest + more) % b


def near(one, seed):
    """Return a level book whose rooms are no less than those of one, or a little more, of other alignments."""
    numbers = random.Random(seed)
    while True:
        kinds = []
        for kind in one:
            alignment = numbers.choice((1, 1, 2, kind[1], kind[1], numbers.choice(ALIGNMENTS)))
            room = room_by_hand(kind) + numbers.choice((0, 0, 1, 1, 2, 3, 4, 7, 8, 15, 31))
            room = room + -room % alignment
            if room > TOP:
                return one
            kinds.append((max(1, room - numbers.choice((0, 0, 0, 1, alignment - 1))), alignment))
        if not unlevel_pairs(tuple(kinds)):
            return tuple(kinds)


def level_books(books):
    """Return those of books that are level."""
    return [book for book in books if not unlevel_pairs(book)]


class LargerRecordTest(unittest.TestCase):
    def judge(self, one, other, found):
        """Judge what is told of one and other by whether there is a larger record, and by its wholes."""
        with self.subTest(one=one, other=other):
            told = larger_record(one, other)
            self.assertEqual(told is not None, found)
            if told is not None:
                self.assertIsNone(record_error(one, told))
                self.assertGreater(rooms_whole_by_hand(one, told), rooms_whole_by_hand(other, told))

    def check_box(self, one, other, most):
        """Judge what is told by all records with at most so many fields of each kind."""
        records = all_records(len(one), most)
        self.judge(one, other, any(rooms_whole(one, record) > rooms_whole(other, record) for record in records))

    def test_examples(self):
        self.assertEqual([larger_record(HALVES, WORDS), larger_record(WORDS, WORDS), larger_record(PACKED, WORDS)],
                         [None] * 3)
        for book in (HALVES, PACKED):
            self.judge(WORDS, book, True)
        self.assertIsNotNone(larger_record(PACKED, HALVES))
        self.assertIsNone(larger_record(((8, 8), (1, 1)), ((16, 1), (1, 1))))
        self.judge(((8, 8), (1, 1)), ((9, 1), (1, 1)), True)
        self.assertIsNone(larger_record(((4, 4), (4, 2)), ((4, 2), (4, 2))))
        self.assertIsNone(larger_record(((3, 4), (4, 1)), ((4, 4), (4, 1))))
        with self.assertRaises(Unfit):
            larger_record(WORDS, ((4, 4),))
        self.unlevel(((5, 4), (2, 2)), ((1, 1), (5, 4)), (0, 1))
        self.unlevel(WORDS, ((1, 1), (5, 4)), (1, 0))

    def unlevel(self, one, other, pair):
        with self.subTest(one=one, other=other):
            with self.assertRaises(Unlevel) as caught:
                larger_record(one, other)
            self.assertEqual(repr(caught.exception.pair), repr(pair))

    def test_one_kind(self):
        books = small_books(1, (1, 2, 4, 8), 9) + [((TOP, 64),), ((TOP - 1, 1),), ((TOP - 64, 64),), ((TOP, 1),)]
        for one, other in itertools.product(books, repeat=2):
            self.check_box(one, other, 8)

    def test_all_pairs_of_small_books_of_two_kinds(self):
        books = level_books(small_books(2, (1, 2, 4), 5))
        for one in books[::2]:
            for other in books[::7]:
                self.check_box(one, other, 4)

    def test_two_kinds_a_little_more(self):
        for high, low, by, further in itertools.product((2, 4, 8), (1, 2), range(0, 9), (0, 1, 2)):
            for size in (low, 3 * low):
                for alignments in ((1, 1), (2, 1), (1, 2), (high, low)):
                    other = ((high + by, alignments[0]), (size + further, alignments[1]))
                    if not unlevel_pairs(other):
                        self.check_box(((high, high), (size, low)), other, high)

    def test_three_kinds_and_four(self):
        for at, one in enumerate(some_level_books(150, 3, 801, (1, 2, 4, 8))):
            self.check_box(one, near(one, at), 8)
        for at, one in enumerate(some_level_books(100, 4, 802, (1, 2, 4))):
            self.check_box(one, near(one, at), 4)

    def test_against_all_rests(self):
        for kinds in range(2, 7):
            for at, one in enumerate(some_level_books(60, kinds, 810 + kinds, (1, 2, 4, 8, 16))):
                other = near(one, at)
                self.judge(one, other, by_rests(one, other))
                self.judge(other, one, by_rests(other, one))

    def test_all_alignments_against_all_rests(self):
        numbers = random.Random(820)
        told = []
        for at in range(24):
            unit = numbers.choice((4, 8))
            one = tuple(level_kind(numbers, unit, alignment, 9) for alignment in (64, 32, 16, 8, 4, 1))
            other = near(one, at)
            told.append(by_rests(one, other))
            self.judge(one, other, told[-1])
        self.assertTrue(0 < sum(told) < 24)

    def test_just_records_with_fields_of_four_kinds(self):
        one, other = FOUR
        for three in itertools.combinations(range(4), 3):
            parts = [tuple(book[place] for place in three) for book in FOUR]
            self.judge(*parts, by_rests(*parts))
            self.assertIsNone(larger_record(*parts))
        self.judge(one, other, True)
        self.assertTrue(by_rests(one, other))
        self.assertTrue(all(number > 0 for number in larger_record(one, other)))
        for record in all_records(4, 3):
            if rooms_whole(one, record) > rooms_whole(other, record):
                self.assertTrue(all(number > 0 for number in record))
        further = one[:1] + ((1, 1),) + one[1:] + ((64, 64),), other[:1] + ((64, 1),) + other[1:] + ((TOP, 1),)
        self.judge(*further, True)
        for place in range(4):
            more = other[:place] + ((other[place][0] + 1, 1),) + other[place + 1:]
            self.judge(one, more, False)

    def test_a_greater_room(self):
        for at, book in enumerate(some_level_books(60, 4, 830)):
            for place, (size, alignment) in enumerate(book):
                more = book[:place] + ((size + alignment, alignment),) + book[place + 1:]
                if size + alignment <= TOP and not unlevel_pairs(more):
                    self.judge(more, book, True)

    def test_just_as_much_more_as_is_rounded_up(self):
        for a in ALIGNMENTS[1:]:
            for b in (b for b in ALIGNMENTS if b < a):
                one = ((a, a), (b, b))
                self.judge(one, ((2 * a - 2 * b, b), (b, b)), True)
                self.judge(one, ((2 * a - b, b), (b, b)), False)
                self.judge(one, ((a, b), (b, b)), True)
                self.judge(one, ((a, b), (2 * b, b)), a > 2 * b)

    def test_books_beside_themselves(self):
        for kinds in range(1, 7):
            for book in some_level_books(30, kinds, 840 + kinds):
                self.assertIsNone(larger_record(book, book))

    def test_unfit_then_unlevel_of_one_then_of_other(self):
        bent, turned = ((5, 4), (2, 2)), ((1, 1), (5, 4))
        unlike = ((bent, ((4, 4),)), (((4, 4),), turned), (WORDS, FOUR[0]), (bent, turned[:1]), (bent, bent * 2))
        for one, other in unlike:
            with self.subTest(one=one, other=other), self.assertRaises(Unfit):
                larger_record(one, other)
        self.unlevel(bent, turned, (0, 1))
        self.unlevel(turned, bent, (1, 0))
        self.unlevel(bent, WORDS, (0, 1))
        self.unlevel(WORDS, turned, (1, 0))
        self.unlevel(bent, bent, (0, 1))
        books = [book for book in some_books(120, 2, 850) if len(book) == 2]
        for one, other in zip(books, books[1:]):
            pairs = unlevel_pairs(one) or unlevel_pairs(other)
            if pairs:
                self.unlevel(one, other, min(pairs))

    def test_six_kinds_of_all_alignments_and_great_rooms(self):
        # Many calls: these would take years if records were gone through one by one.
        numbers = random.Random(860)
        found = 0
        for at in range(150):
            unit = numbers.choice((1, 1, 2, 4, 8))
            most = numbers.choice((9, TOP // 64 - 1))
            six = numbers.sample(ALIGNMENTS, 6)
            one = tuple(level_kind(numbers, unit, alignment, most) for alignment in six)
            other = near(one, at)
            told = larger_record(one, other)
            with self.subTest(one=one, other=other):
                if told is not None:
                    found += 1
                    self.assertIsNone(record_error(one, told))
                    self.assertGreater(rooms_whole(one, told), rooms_whole(other, told))
                else:
                    for record in some_records(one, 20, 70, at) + some_records(one, 5, TOP, at):
                        self.assertLessEqual(rooms_whole(one, record), rooms_whole(other, record))
        self.assertTrue(10 < found < 140)

    def test_all_kinds_are_as_much_more_as_one(self):
        steps = ((64, 64), (32, 32), (16, 16), (8, 8), (4, 4), (1, 1))
        packed = tuple((size, 1) for size, _ in steps)
        for by in range(70):
            self.judge(steps, tuple((size + by, 1) for size, _ in steps), 2 * by + 1 <= 63)
            self.judge(steps, ((64 + by, 1),) + packed[1:], True)


class WhatHoldsTest(unittest.TestCase):
    """What [J3] tells."""

    def pairs(self):
        """Return pairs of level books of as many kinds."""
        found = []
        for kinds in range(1, 7):
            for at, one in enumerate(some_level_books(40, kinds, 870 + kinds)):
                found += [(one, near(one, at)), (near(one, at), one)]
        return found

    def test_a_greater_room_is_greater_by_one_field_alone(self):
        for one, other in self.pairs():
            for place, (room, beside) in enumerate(zip(rooms(one), rooms(other))):
                if room > beside:
                    single = tuple(int(at == place) for at in range(len(one)))
                    self.assertGreater(rooms_whole(one, single), rooms_whole(other, single))
                    self.assertIsNotNone(larger_record(one, other))

    def test_none_if_no_room_and_no_alignment_is_greater(self):
        none = 0
        for one, other in self.pairs():
            if all(room <= beside and kind[1] <= further[1]
                   for room, beside, kind, further in zip(rooms(one), rooms(other), one, other)):
                none += 1
                self.assertIsNone(larger_record(one, other))
        self.assertGreater(none, 20)

    def test_by_rounding_up_alone_the_greatest_alignment_is_above_and_the_rooms_are_less_than_it_more(self):
        for one, other in self.pairs():
            told = larger_record(one, other)
            if told is not None and all(room <= beside for room, beside in zip(rooms(one), rooms(other))):
                there = [place for place, number in enumerate(told) if number > 0]
                a = max(one[place][1] for place in there)
                more = sum(number * (beside - room) for number, room, beside in zip(told, rooms(one), rooms(other)))
                self.assertGreater(a, max(other[place][1] for place in there))
                self.assertLess(more, a)

    def test_of_one_and_two_and_of_two_and_three_and_of_one_and_three(self):
        several = 0
        for at, one in enumerate(some_level_books(250, 3, 890)):
            two = near(one, at)
            three = near(two, at + 1)
            if larger_record(one, two) is None and larger_record(two, three) is None:
                several += 1
                self.assertIsNone(larger_record(one, three))
        self.assertGreater(several, 30)

    def test_the_least_whole_is_that_of_rows(self):
        for one, other in self.pairs():
            told = larger_record(one, other)
            if told is not None and sum(told) <= 100:
                parts = 1
                for number in told:
                    parts *= number + 1
                if parts <= 256:
                    self.assertGreater(least_whole(one, told), least_whole(other, told))


if __name__ == "__main__":
    unittest.main()

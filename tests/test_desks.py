import copy
import random
import unittest

from fallingfields.books import book_error, record_error
from fallingfields.bounds import MAX_EDITS
from fallingfields.desks import Desk, desk_behind
from fallingfields.errors import (
    BadBook, FieldsError, NothingToRedo, NothingToUndo, NoVersion, TooManyEdits, Unfit,
)
from fallingfields.floors import floor_whole
from fallingfields.levels import level_error
from fallingfields.mends import least_lot
from fallingfields.rooms import rooms_whole
from desk_samples import BOOKS, LOG, START, desk_with, done, edited, edit_of, state, values
from samples import (
    ALIGNMENTS, CALM, HUGE, SIX, THIN, TOP, answer, any_values, some_books, some_level_books, some_records,
)


class DeskCase(unittest.TestCase):
    def refused(self, desk, error, call, *arguments):
        """See call raise just this error, and desk stay as it was; return the error."""
        ahead = state(desk)
        with self.subTest(arguments=repr(arguments)[:100]):
            with self.assertRaises(FieldsError) as caught:
                call(*arguments)
            self.assertIs(type(caught.exception), error)
            self.assertEqual(state(desk), ahead)
            return caught.exception


class NewDeskTest(DeskCase):
    def test_a_new_desk(self):
        for book in [CALM, THIN, SIX, ((TOP, 64),)] + some_books(40, 6, 900):
            desk = Desk(book)
            self.assertEqual(repr((desk.book, desk.version, desk.log)), repr((book, 0, ())))
            self.assertEqual(desk.at(0), book)
            self.assertEqual(state(Desk(book=book)), state(desk))
            self.refused(desk, NothingToUndo, desk.undo)
            self.refused(desk, NothingToRedo, desk.redo)

    def test_no_book(self):
        for value in values() + [((4, 4), (0, 1)), ((4, 3),), SIX + CALM, [(4, 4)], ((4, 4), (True, 1)), ((4, True),)]:
            with self.subTest(value=repr(value)[:80]):
                if book_error(value) is None:
                    self.assertEqual(Desk(value).book, value)
                else:
                    with self.assertRaises(BadBook) as caught:
                        Desk(value)
                    self.assertEqual(repr(caught.exception.error), repr(book_error(value)))

    def test_examples(self):
        d = Desk(((4, 4), (1, 1)))
        told = [d.pair(), d.whole((2, 3)), d.resize(0, 5), d.pair(), d.lot(), d.whole((2, 3))]
        self.assertEqual(told, [None, ("least", 12), 1, (0, 1), (0,), ("floor", 16)])
        told = [d.add(6, 2), d.pair(), d.drop(1), d.book, d.pair(), d.whole((1, 1)), d.whole((3, 2))]
        self.assertEqual(told, [2, (0, 1), 3, ((5, 4), (6, 2)), (0, 1), ("floor", 12), ("floor", 32)])
        told = [d.resize(0, 7), d.pair(), d.lot(), d.whole((1, 1)), d.realign(0, 8), d.whole((TOP, 1)), d.version]
        self.assertEqual(told, [4, None, (), ("least", 16), 5, ("least", 8 * TOP + 8), 5])
        told = [d.undo(), d.book, d.redo(), d.at(2), d.at(0), d.copy() == d, d == Desk(((7, 8), (6, 2))), d == d.book]
        self.assertEqual(told, [4, ((7, 4), (6, 2)), 5, ((5, 4), (1, 1), (6, 2)), ((4, 4), (1, 1)), True, True, False])
        self.assertEqual(d.log, LOG)
        self.refused(d, Unfit, d.resize, 2, 5)
        self.refused(d, Unfit, d.realign, 0, 3)
        self.refused(d, Unfit, d.whole, (0, 0))
        self.assertIs(self.refused(d, NoVersion, d.at, True).given, True)
        self.refused(d, NothingToRedo, d.redo)


class EditsTest(DeskCase):
    def check_edits(self, desk, edits):
        """Do edits on desk, and see each of them told, its book, its version, and the log."""
        book, log = desk.book, desk.log
        for edit in edits:
            book, log = edited(book, edit), log + (edit,)
            told = done(desk, edit)
            self.assertEqual(repr(told), repr(len(log)))
            self.assertEqual(repr((desk.book, desk.version, desk.log)), repr((book, len(log), log)))

    def test_each_edit(self):
        for book in (CALM, THIN, SIX, ((TOP, 64),), START):
            for place in range(len(book)):
                for size in (1, 2, 63, TOP - 1, TOP):
                    self.check_edits(Desk(book), [("resize", place, size)])
                for alignment in ALIGNMENTS:
                    self.check_edits(Desk(book), [("realign", place, alignment)])
                    if len(book) < 6:
                        self.check_edits(Desk(book), [("add", TOP, alignment), ("drop", place)])
                if len(book) > 1:
                    self.check_edits(Desk(book), [("drop", place)])

    def test_many_edits(self):
        for seed in range(40):
            numbers = random.Random(seed)
            desk = Desk(some_books(1, 6, seed)[0])
            book, edits = desk.book, []
            for _ in range(40):
                edits.append(edit_of(numbers, book))
                book = edited(book, edits[-1])
            self.check_edits(desk, edits)

    def test_edits_by_name(self):
        desk = Desk(START)
        told = [desk.resize(value=5, place=0), desk.realign(value=8, place=1), desk.add(alignment=2, size=6),
                desk.drop(place=0)]
        self.assertEqual(told, [1, 2, 3, 4])
        self.assertEqual(desk.log, (("resize", 0, 5), ("realign", 1, 8), ("add", 6, 2), ("drop", 0)))
        self.assertEqual(desk.book, ((1, 8), (6, 2)))
        self.assertEqual(desk.at(version=3), ((5, 4), (1, 8), (6, 2)))
        self.assertEqual(desk.whole(record=(1, 1)), desk.whole((1, 1)))

    def test_an_edit_that_leaves_all_as_it_was_is_one_too(self):
        desk = Desk(START)
        self.check_edits(desk, [("resize", 0, 4), ("realign", 1, 1), ("resize", 0, 4)])
        self.assertEqual((desk.version, desk.book), (3, START))
        self.assertEqual([desk.undo(), desk.undo(), desk.undo()], [2, 1, 0])

    def test_sizes_and_alignments_that_are_none(self):
        desk = Desk(START)
        desk.add(3, 2)
        desk.undo()
        for value in values() + [0, -1, TOP + 1, HUGE]:
            if answer(lambda: Desk(((value, 1),)))[0] == "raised":
                self.refused(desk, Unfit, desk.resize, 0, value)
                self.refused(desk, Unfit, desk.add, value, 1)
                self.refused(desk, Unfit, desk.add, value, 3)
                self.refused(desk, Unfit, desk.resize, 2, value)
        for value in values() + [0, 3, 5, 128, -4, HUGE, "4", (4,)]:
            if answer(lambda: Desk(((1, value),)))[0] == "raised":
                self.refused(desk, Unfit, desk.realign, 1, value)
                self.refused(desk, Unfit, desk.add, 1, value)
                self.refused(desk, Unfit, desk.add, 0, value)
                self.refused(desk, Unfit, desk.realign, -1, value)

    def test_places_that_are_none(self):
        desk = Desk(START)
        desk.add(3, 2)
        desk.undo()
        wrong = [value for value in values() if repr(value) not in ("0", "1")]
        for value in wrong + [2, -1, -2, HUGE, "0", (0,), True, False]:
            self.refused(desk, Unfit, desk.resize, value, 5)
            self.refused(desk, Unfit, desk.resize, value, value)
            self.refused(desk, Unfit, desk.realign, value, 4)
            self.refused(desk, Unfit, desk.realign, value, None)
            self.refused(desk, Unfit, desk.drop, value)

    def test_nothing_that_is_handed_in_is_changed(self):
        desk = Desk(START)
        for value in any_values():
            ahead = repr(copy.deepcopy(value))
            for call in (
                lambda: desk.resize(value, value), lambda: desk.resize(0, value), lambda: desk.realign(0, value),
                lambda: desk.add(value, value), lambda: desk.drop(value), lambda: desk.at(value),
                lambda: desk.whole(value), lambda: desk == value, lambda: Desk(value),
                lambda: desk_behind(value, value),
            ):
                answer(call)
                self.assertEqual(repr(value), ahead)

    def test_as_many_kinds_as_may_be(self):
        desk = Desk(SIX)
        self.refused(desk, Unfit, desk.add, 1, 1)
        self.refused(desk, Unfit, desk.add, None, None)
        desk.drop(5)
        self.assertEqual(desk.add(9, 32), 2)
        self.assertEqual(desk.book, SIX[:5] + ((9, 32),))
        self.refused(desk, Unfit, desk.add, 1, 1)

    def test_one_kind_is_not_left_out(self):
        desk = Desk(START)
        desk.drop(0)
        self.assertEqual(desk.book, ((1, 1),))
        for value in (0, 1, None, True):
            self.refused(desk, Unfit, desk.drop, value)
        desk.add(4, 4)
        self.assertEqual(desk.drop(0), 3)
        self.assertEqual(desk.book, ((4, 4),))

    def test_39_edits_and_40_and_41(self):
        desk = desk_with(39)
        self.assertEqual(desk.resize(0, 77), 40)
        self.assertEqual(desk.version, MAX_EDITS)
        for edit in (("resize", 0, 1), ("resize", 0, 77), ("realign", 1, 2), ("add", 1, 1), ("drop", 0)):
            self.refused(desk, TooManyEdits, done, desk, edit)
        self.assertEqual(desk.undo(), 39)
        self.assertEqual(desk.redo(), 40)
        self.refused(desk, TooManyEdits, desk.drop, 1)
        desk.undo()
        self.assertEqual(desk.add(1, 1), 40)
        self.refused(desk, TooManyEdits, desk.add, 1, 1)

    def test_what_is_wrong_is_told_ahead_of_too_many_edits(self):
        desk = desk_with(40)
        for edit in (("resize", 2, 1), ("resize", 0, 0), ("realign", 0, 3), ("realign", None, 4), ("add", 0, 1),
                     ("add", 1, 3), ("drop", 2), ("drop", True)):
            self.refused(desk, Unfit, done, desk, edit)
        desk.undo()
        desk.drop(0)
        self.assertEqual(desk.version, 40)
        self.refused(desk, Unfit, desk.drop, 0)
        self.refused(desk, TooManyEdits, desk.add, 1, 1)
        six = Desk(SIX)
        for _ in range(40):
            six.resize(0, 1)
        self.refused(six, Unfit, six.add, 1, 1)
        self.refused(six, TooManyEdits, six.drop, 1)


class BackAndForthTest(DeskCase):
    def test_undo_and_redo(self):
        desk = desk_behind(START, LOG)
        for version in (4, 3, 2, 1, 0):
            self.assertEqual(repr(desk.undo()), repr(version))
            self.assertEqual((desk.book, desk.version, desk.log), (BOOKS[version], version, LOG[:version]))
        self.refused(desk, NothingToUndo, desk.undo)
        for version in (1, 2, 3, 4, 5):
            self.assertEqual(repr(desk.redo()), repr(version))
            self.assertEqual((desk.book, desk.version, desk.log), (BOOKS[version], version, LOG[:version]))
        self.refused(desk, NothingToRedo, desk.redo)

    def test_an_edit_forgets_what_was_taken_back(self):
        for edit in (("resize", 0, 9), ("realign", 0, 1), ("add", 1, 1), ("drop", 0), ("resize", 0, 5), ("drop", 1)):
            desk = desk_behind(START, LOG)
            desk.undo()
            desk.undo()
            self.assertEqual(done(desk, edit), 4)
            self.refused(desk, NothingToRedo, desk.redo)
            self.assertEqual(desk.log, LOG[:3] + (edit,))
            self.assertEqual([desk.undo(), desk.book, desk.redo()], [3, BOOKS[3], 4])
            self.assertEqual(desk.log, LOG[:3] + (edit,))

    def test_a_refused_edit_does_not(self):
        desk = desk_behind(START, LOG)
        desk.undo()
        desk.undo()
        for edit in (("resize", 0, 0), ("realign", 0, 3), ("add", 0, 1), ("drop", 2), ("drop", None)):
            self.refused(desk, Unfit, done, desk, edit)
        for version in (-1, 4, None):
            self.refused(desk, NoVersion, desk.at, version)
        self.refused(desk, Unfit, desk.whole, None)
        self.assertEqual([desk.redo(), desk.redo(), desk.book], [4, 5, BOOKS[5]])

    def test_what_was_taken_back_at_forty_edits(self):
        desk = desk_with(40)
        for _ in range(40):
            desk.undo()
        self.assertEqual((desk.version, desk.book), (0, START))
        for version in range(1, 41):
            self.assertEqual(desk.redo(), version)
        self.refused(desk, TooManyEdits, desk.resize, 0, 1)

    def test_at(self):
        desk = desk_behind(START, LOG)
        self.assertEqual([desk.at(version) for version in range(6)], list(BOOKS))
        desk.undo()
        self.assertEqual([desk.at(version) for version in range(5)], list(BOOKS[:5]))
        self.assertEqual(self.refused(desk, NoVersion, desk.at, 5).given, 5)
        desk.resize(1, 64)
        self.assertEqual(desk.at(5), ((7, 4), (64, 2)))
        self.assertEqual(desk.at(4), BOOKS[4])

    def test_at_of_no_version(self):
        desk = desk_behind(START, LOG[:2])
        for value in values() + [-1, -2, 3, HUGE, True, False, "1", (1,), [0]]:
            if repr(value) not in ("0", "1", "2"):
                self.assertIs(self.refused(desk, NoVersion, desk.at, value).given, value)

    def test_any_steps_against_a_list_of_books(self):
        for seed in range(40):
            numbers = random.Random(seed)
            desk = Desk(some_books(1, 4, seed + 50)[0])
            books, log, stands = [desk.book], [], 0
            for _ in range(120):
                step = numbers.choice(("edit", "edit", "undo", "redo"))
                if step == "undo" and stands > 0:
                    stands -= 1
                    self.assertEqual(desk.undo(), stands)
                elif step == "redo" and stands < len(log):
                    stands += 1
                    self.assertEqual(desk.redo(), stands)
                elif step == "edit" and stands < MAX_EDITS:
                    edit = edit_of(numbers, books[stands])
                    books, log = books[:stands + 1] + [edited(books[stands], edit)], log[:stands] + [edit]
                    stands += 1
                    self.assertEqual(done(desk, edit), stands)
                else:
                    error = {"undo": NothingToUndo, "redo": NothingToRedo, "edit": TooManyEdits}[step]
                    arguments = edit_of(numbers, books[stands]) if step == "edit" else (step,)
                    self.refused(desk, error, done, desk, arguments)
                self.assertEqual((desk.book, desk.version, desk.log), (books[stands], stands, tuple(log[:stands])))
                self.assertEqual([desk.at(version) for version in range(stands + 1)], books[:stands + 1])


class TellingTest(DeskCase):
    def test_pair_lot_and_whole(self):
        levels = 0
        for at, book in enumerate(some_books(120, 5, 901) + some_level_books(40, 4, 902)):
            desk = Desk(book)
            self.assertEqual(repr(desk.pair()), repr(level_error(book)))
            self.assertEqual(repr(desk.lot()), repr(least_lot(book)))
            for record in some_records(book, 2, 9, at) + some_records(book, 1, TOP, at) + [(TOP,) * len(book)]:
                level = level_error(book) is None
                levels += level
                right = ("least", rooms_whole(book, record)) if level else ("floor", floor_whole(book, record))
                self.assertEqual(repr(desk.whole(record)), repr(right))
            self.assertEqual((desk.version, desk.log, desk.book), (0, (), book))
        self.assertTrue(100 < levels < 500)

    def test_no_record(self):
        for desk in (Desk(START), Desk(THIN)):
            wrong = [(1,), (1, 1, 1), [1, 1], (0, 0), (1, True), (False, 1), (-1, 1), (TOP + 1, 1), (1, "1"), "11"]
            for value in values() + wrong:
                if record_error(desk.book, value) is not None:
                    self.refused(desk, Unfit, desk.whole, value)

    def test_they_tell_of_the_book_that_stands(self):
        desk = Desk(START)
        desk.resize(0, 5)
        self.assertEqual((desk.pair(), desk.lot(), desk.whole((2, 3))), ((0, 1), (0,), ("floor", 16)))
        desk.undo()
        self.assertEqual((desk.pair(), desk.lot(), desk.whole((2, 3))), (None, (), ("least", 12)))
        desk.drop(0)
        self.refused(desk, Unfit, desk.whole, (2, 3))
        self.assertEqual(desk.whole((3,)), ("least", 3))

    def test_nobody_sets_book_version_and_log(self):
        desk = desk_behind(START, LOG)
        for name in ("book", "version", "log"):
            with self.assertRaises(AttributeError):
                setattr(desk, name, getattr(desk, name))

    def test_what_was_returned_never_changes(self):
        desk = desk_behind(START, LOG)
        told = [desk.book, desk.log, desk.at(2), desk.pair(), desk.lot(), desk.whole((1, 1))]
        ahead = repr(told)
        desk.undo()
        desk.resize(0, 99)
        desk.drop(1)
        self.assertEqual(repr(told), ahead)
        for value in told[:3]:
            self.assertIs(type(value), tuple)


class CopyTest(DeskCase):
    def test_copies_are_alike(self):
        desk = desk_behind(START, LOG)
        desk.undo()
        desk.undo()
        twin = desk.copy()
        self.assertIs(type(twin), Desk)
        self.assertIsNot(twin, desk)
        self.assertEqual(state(twin), state(desk))
        self.assertTrue(twin == desk)

    def test_copies_go_on_by_themselves(self):
        for change in (lambda d: d.undo(), lambda d: d.redo(), lambda d: d.add(9, 8), lambda d: d.drop(0)):
            desk = desk_behind(START, LOG)
            desk.undo()
            twin = desk.copy()
            ahead = state(desk)
            change(twin)
            self.assertEqual(state(desk), ahead)
            self.assertNotEqual(state(twin), ahead)
            twin = desk.copy()
            change(desk)
            self.assertEqual(state(twin), ahead)
            self.assertNotEqual(state(desk), ahead)

    def test_copies_of_full_desks(self):
        twin = desk_with(40).copy()
        self.refused(twin, TooManyEdits, twin.resize, 0, 1)
        self.assertEqual(twin.copy().undo(), 39)
        self.assertEqual(twin.version, 40)


class EqualTest(unittest.TestCase):
    def check(self, one, other, right):
        self.assertIs(one == other, right)
        self.assertIs(other == one, right)
        self.assertIs(one != other, not right)
        self.assertIs(other != one, not right)

    def test_desks_are_equal_if_their_books_are(self):
        self.check(Desk(START), Desk(START), True)
        self.check(Desk(START), Desk(START[::-1]), False)
        self.check(Desk(START), Desk(START[:1]), False)
        self.check(desk_behind(START, LOG), Desk(BOOKS[5]), True)
        self.check(desk_behind(START, LOG), desk_behind(START, LOG[:4]), False)
        self.check(desk_behind(START, (("resize", 0, 4),)), Desk(START), True)
        desk = Desk(START)
        self.check(desk, desk, True)

    def test_they_are_equal_to_nothing_else(self):
        desk = Desk(START)
        for value in values() + [START, LOG, (START,), "4/4 1/1", desk.log, (desk,), [desk]]:
            if not isinstance(value, Desk):
                self.check(desk, value, False)

    def test_they_may_change(self):
        one, other = Desk(START), Desk(START)
        one.resize(0, 5)
        self.check(one, other, False)
        other.resize(0, 5)
        self.check(one, other, True)
        one.undo()
        self.check(one, other, False)

    def test_each_method_is_defined_in_the_class(self):
        for name in ("book", "version", "log", "resize", "realign", "add", "drop", "undo", "redo", "at", "pair", "lot",
                     "whole", "copy", "__init__", "__eq__", "__ne__"):
            self.assertIn(name, vars(Desk))
        self.assertEqual((Desk.__module__, desk_behind.__module__), ("fallingfields.desks",) * 2)


if __name__ == "__main__":
    unittest.main()

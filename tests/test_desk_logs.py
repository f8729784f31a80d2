import copy
import random
import unittest

from fallingfields.books import book_error
from fallingfields.desks import Desk, desk_behind
from fallingfields.errors import BadBook, BadLog, FieldsError, NothingToRedo
from fallingfields.rooms import rooms
from desk_samples import LOG, START, done, edit_of, state, values
from samples import answer, some_books


class DeskBehindTest(unittest.TestCase):
    def bad(self, log, place, book=START):
        with self.subTest(log=repr(log)[:200]):
            with self.assertRaises(BadLog) as caught:
                desk_behind(book, log)
            self.assertEqual(repr(caught.exception.place), repr(place))

    def test_examples(self):
        behind = desk_behind(START, LOG)
        self.assertEqual((behind.version, behind.log == LOG, behind.at(3)), (5, True, ((5, 4), (6, 2))))
        self.assertEqual(desk_behind(((4, 4),), ()).book, ((4, 4),))
        self.bad((("resize", 0, 5), ("drop", 0)), 1, ((4, 4),))
        self.bad([("resize", 0, 5)], 0, ((4, 4),))
        self.bad((("drop", 0), 5), 0, ((4, 4),))

    def test_logs_of_desks(self):
        for seed in range(40):
            numbers = random.Random(seed)
            desk = Desk(some_books(1, 6, seed + 70)[0])
            for _ in range(seed + 1):
                done(desk, edit_of(numbers, desk.book))
            behind = desk_behind(desk.at(0), desk.log)
            self.assertEqual(state(behind), state(desk))
            self.assertEqual(state(desk_behind(log=desk.log, book=desk.at(0))), state(desk))
            with self.assertRaises(NothingToRedo):
                behind.redo()

    def test_each_call_returns_a_new_desk(self):
        one, other = desk_behind(START, LOG), desk_behind(START, LOG)
        self.assertIsNot(one, other)
        one.undo()
        self.assertEqual(other.version, 5)

    def test_what_is_no_tuple(self):
        for value in values() + [[], list(LOG), {}, "", "resize", None, Desk(START)]:
            if not isinstance(value, tuple):
                self.bad(value, 0)

    def test_items_that_are_no_edit(self):
        for value in values() + [
            [("resize", 0, 5)], ["resize", 0, 5], ["drop", 0], ("resize",), ("resize", 0), ("resize", 0, 5, 5),
            ("realign", 0), ("realign", 0, 4, 4), ("add", 5), ("add", 5, 4, 4), ("add",), ("drop",), ("drop", 0, 0),
            ("undo",), ("redo",), ("copy",), ("Resize", 0, 5), ("size", 0, 5), ("pair",), ("at", 0), ("whole", (1, 1)),
            ("__init__", START), ("_put", ("drop", 0), START), (0, "resize", 5), ("resize ", 0, 5), (["resize"], 0, 5),
            ({}, 0), (None, 0, 5), (True, 0), (Desk(START), 0, 5), ("add", (5, 4)), (("resize", 0, 5),), "resize", "dr",
        ]:
            self.bad((value,), 0)
            self.bad((("resize", 0, 5), ("add", 1, 1), value, ("drop", 0)), 2)

    def test_tuples_whose_first_item_is_no_word_of_an_edit(self):
        rest = ((), (0,), (0, 4), (0, 4, 4))
        others = ["dro", "dropp", "drop\n", ("drop",), ["add"], {"add": 0}, FieldsError("drop")]
        for first in values() + others:
            for arguments in rest:
                self.bad(((first,) + arguments,), 0)
                self.bad((("add", 1, 1), (first,) + arguments, ("drop", 0)), 1)

    def test_each_word_takes_just_its_arguments(self):
        for word, many in (("resize", 2), ("realign", 2), ("add", 2), ("drop", 1)):
            for arguments in ((), (1,), (1, 1), (1, 1, 1), (1, 1, 1, 1)):
                edit = (word,) + arguments
                if len(arguments) == many:
                    self.assertEqual(repr(desk_behind(START, (edit,)).log), repr((edit,)))
                else:
                    self.bad((edit,), 0)
                self.bad((list(edit),), 0)
        self.bad(((),), 0)
        self.bad((("resize", 0, 5), (), ("drop", 0)), 1)

    def test_edits_that_are_refused(self):
        for value in (
            ("resize", 2, 5), ("resize", 0, 0), ("resize", True, 5), ("resize", 0, True), ("realign", 0, 3),
            ("realign", 2, 4), ("add", 0, 1), ("add", 1, 3), ("add", None, None), ("drop", 2), ("drop", -1),
            ("drop", None), ("drop", []),
        ):
            self.bad((value,), 0)
            self.bad((("resize", 0, 5), value, value), 1)
        self.bad((("drop", 0), ("drop", 0)), 1)
        self.bad((("add", 1, 1),) * 5, 4)
        self.assertEqual(desk_behind(START, (("add", 1, 1),) * 4).version, 4)
        self.bad((("drop", 1), ("add", 2, 2), ("resize", 2, 3)), 2)

    def test_each_edit_is_looked_at_by_the_book_behind_those_ahead(self):
        self.assertEqual(desk_behind(START, (("add", 6, 2), ("resize", 2, 3))).book, START + ((3, 2),))
        self.bad((("resize", 2, 3), ("add", 6, 2)), 0)
        self.bad((5, "x", ("resize", 0, 5)), 0)

    def test_forty_edits_and_one_more(self):
        log = (("resize", 0, 5), ("realign", 0, 8)) * 20
        self.assertEqual(desk_behind(START, log).version, 40)
        self.bad(log + (("resize", 0, 5),), 40)
        self.bad(log + (None,), 40)
        self.bad(log + (("resize", 0, 0),) * 9, 40)
        self.bad(log[:39] + (("resize", 0, 0),) + log, 39)
        self.bad((("resize", 0, 5),) * 1000, 40)

    def test_books_that_are_none_come_first(self):
        for book in values() + [((4, 4), (0, 1)), [(4, 4)]]:
            if book_error(book) is not None:
                for log in (LOG, (), None, [1], (5,)):
                    with self.assertRaises(BadBook) as caught:
                        desk_behind(book, log)
                    self.assertEqual(repr(caught.exception.error), repr(book_error(book)))

    def test_nothing_that_is_handed_in_is_changed(self):
        for log in values() + [LOG, (("drop", []),), (["drop", 0],), (("resize", 0, {1: [2]}),)]:
            ahead = repr(log) if not isinstance(log, Desk) else state(log)
            first = answer(lambda: desk_behind(START, log).log)
            self.assertEqual(repr(log) if not isinstance(log, Desk) else state(log), ahead)
            self.assertEqual(answer(lambda: desk_behind(START, copy.deepcopy(log)).log), first)


class WhatHoldsTest(unittest.TestCase):
    """What [K4] tells."""

    def desks(self):
        """Return desks with edits, some of them taken back."""
        found = []
        for seed in range(60):
            numbers = random.Random(seed)
            desk = Desk(some_books(1, 5, seed + 90)[0])
            for _ in range(numbers.randrange(20)):
                done(desk, edit_of(numbers, desk.book))
            for _ in range(numbers.randrange(3)):
                if desk.version > 0:
                    desk.undo()
            found.append(desk)
        return found

    def test_a_desk_behind_the_log(self):
        for desk in self.desks():
            behind = desk_behind(desk.at(0), desk.log)
            self.assertTrue(behind == desk)
            self.assertEqual((behind.version, behind.log), (desk.version, desk.log))
            self.assertEqual(desk.at(desk.version), desk.book)
            twin = desk.copy()
            while twin.version > 0:
                self.assertEqual(behind.undo(), twin.undo())
                self.assertEqual(behind.book, twin.book)
            self.assertEqual(behind.book, desk.at(0))

    def test_there_is_a_pair_exactly_with_a_lot(self):
        for desk in self.desks():
            self.assertEqual(desk.pair() is None, desk.lot() == ())

    def test_resized_to_their_rooms_the_kinds_of_the_lot_leave_no_pair(self):
        for desk in self.desks():
            for place in desk.lot():
                desk.resize(place, rooms(desk.book)[place])
            self.assertIsNone(desk.pair())

    def test_equal_calls_tell_equal_things_behind_calls_for_other_desks(self):
        told = [self.told_of(desk) for desk in self.desks()]
        again = [self.told_of(desk) for desk in reversed(self.desks())]
        self.assertEqual(told, again[::-1])

    def told_of(self, desk):
        """Return all that a desk tells of some calls, one behind another."""
        record = (3,) * len(desk.book)
        calls = (
            desk.pair, desk.lot, lambda: desk.whole(record), lambda: desk.at(1), desk.undo, desk.redo, desk.redo,
            lambda: desk.add(3, 4), lambda: desk.drop(1), desk.pair, lambda: desk.realign(0, 64),
            lambda: desk.resize(0, None), lambda: desk.whole(record), desk.lot,
        )
        return [answer(call) for call in calls] + [state(desk)]

    def test_desks_do_not_change_with_each_other(self):
        desks = self.desks()
        ahead = [state(desk) for desk in desks]
        for desk in self.desks():
            desk.resize(0, 1)
            desk.add(1, 1) if len(desk.book) < 6 else desk.drop(0)
        self.assertEqual([state(desk) for desk in desks], ahead)


if __name__ == "__main__":
    unittest.main()

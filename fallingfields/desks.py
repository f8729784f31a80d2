"""A desk: a book, the edits that changed it, and those that were taken back."""

from fallingfields.books import (
    book_error, is_alignment, is_integer_within, is_kind, is_place, is_size, is_tuple_within, record_error,
)
from fallingfields.bounds import MAX_EDITS, MAX_KINDS
from fallingfields.errors import BadBook, BadLog, NothingToRedo, NothingToUndo, NoVersion, TooManyEdits, Unfit
from fallingfields.floors import floor_whole
from fallingfields.levels import level_error
from fallingfields.mends import least_lot
from fallingfields.rooms import rooms_whole


class Desk:
    """A book with its edits: those that stand, and those that were taken back."""

    def __init__(self, book):
        error = book_error(book)
        if error is not None:
            raise BadBook(error)
        # One book more than there are edits: the first one, and the one behind each edit.
        self._books = [book]
        self._edits = []
        self._undone = []

    @property
    def book(self):
        """The book that stands."""
        return self._books[-1]

    @property
    def version(self):
        """How many edits stand."""
        return len(self._edits)

    @property
    def log(self):
        """The tuple of the edits that stand, in order."""
        return tuple(self._edits)

    def resize(self, place, value):
        """Give the kind at place this size; return the new version."""
        if not is_place(self.book, place) or not is_size(value):
            raise Unfit()
        kind = (value, self.book[place][1])
        return self._edited(("resize", place, value), with_kinds(self.book, place, (kind,)))

    def realign(self, place, value):
        """Give the kind at place this alignment; return the new version."""
        if not is_place(self.book, place) or not is_alignment(value):
            raise Unfit()
        kind = (self.book[place][0], value)
        return self._edited(("realign", place, value), with_kinds(self.book, place, (kind,)))

    def add(self, size, alignment):
        """Put a kind with this size and alignment behind all others; return the new version."""
        kind = (size, alignment)
        if not is_kind(kind) or len(self.book) >= MAX_KINDS:
            raise Unfit()
        return self._edited(("add", size, alignment), self.book + (kind,))

    def drop(self, place):
        """Leave out the kind at place; return the new version."""
        if not is_place(self.book, place) or len(self.book) == 1:
            raise Unfit()
        return self._edited(("drop", place), with_kinds(self.book, place, ()))

    def undo(self):
        """Take back the last edit that stands; return the version then."""
        if not self._edits:
            raise NothingToUndo()
        self._undone.append((self._edits.pop(), self._books.pop()))
        return self.version

    def redo(self):
        """Do the edit again that was taken back last; return the version then."""
        if not self._undone:
            raise NothingToRedo()
        edit, book = self._undone.pop()
        return self._put(edit, book)

    def at(self, version):
        """Return the book as it was when so many of the edits stood that stand now."""
        if not is_integer_within(version, 0, self.version):
            raise NoVersion(version)
        return self._books[version]

    def pair(self):
        """Return None if the book is level, otherwise the least pair of places by which it is not."""
        return level_error(self.book)

    def lot(self):
        """Return the lot of the kinds that have to be rounded up so that the book is level."""
        return least_lot(self.book)

    def whole(self, record):
        """Return ("least", its least whole) of record if the book is level, otherwise ("floor", its floor)."""
        if record_error(self.book, record) is not None:
            raise Unfit()
        if self.pair() is None:
            return ("least", rooms_whole(self.book, record))
        return ("floor", floor_whole(self.book, record))

    def copy(self):
        """Return a desk with the same book, edits, and edits taken back, that goes on by itself."""
        twin = Desk(self.book)
        twin._books = list(self._books)
        twin._edits = list(self._edits)
        twin._undone = list(self._undone)
        return twin

    def __eq__(self, other):
        return isinstance(other, Desk) and self.book == other.book

    def __ne__(self, other):
        return not self == other

    def _edited(self, edit, book):
        """Do edit, which changes the book to this one, and forget those taken back; return the new version."""
        if self.version >= MAX_EDITS:
            raise TooManyEdits()
        self._undone = []
        return self._put(edit, book)

    def _put(self, edit, book):
        """Let edit stand, and behind it book; return the version then."""
        self._edits.append(edit)
        self._books.append(book)
        return self.version


def desk_behind(book, log):
    """Return a new desk with book on which all edits of log were done; raise BadBook(error) or BadLog(place)."""
    desk = Desk(book)
    if not isinstance(log, tuple):
        raise BadLog(0)
    for place, edit in enumerate(log):
        try:
            do_edit(desk, edit)
        except (Unfit, TooManyEdits):
            raise BadLog(place) from None
    return desk


def do_edit(desk, edit):
    """Do edit on desk; raise Unfit() also if it is no tuple of the word of an edit and its arguments."""
    if is_edit(edit, "resize", 2):
        desk.resize(edit[1], edit[2])
    elif is_edit(edit, "realign", 2):
        desk.realign(edit[1], edit[2])
    elif is_edit(edit, "add", 2):
        desk.add(edit[1], edit[2])
    elif is_edit(edit, "drop", 1):
        desk.drop(edit[1])
    else:
        raise Unfit()


def is_edit(value, word, many):
    """Return whether value is a tuple of this word and so many arguments."""
    return is_tuple_within(value, many + 1, many + 1) and value[0] == word


def with_kinds(book, place, kinds):
    """Return book with these kinds in the place of the one at place."""
    return book[:place] + kinds + book[place + 1:]

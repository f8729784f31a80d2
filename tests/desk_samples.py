"""Desks, logs and edits that the tests of desks share."""

from fallingfields import errors
from fallingfields.desks import Desk
from samples import ALIGNMENTS, CALM, TOP, answer, any_values

START = ((4, 4), (1, 1))
LOG = (("resize", 0, 5), ("add", 6, 2), ("drop", 1), ("resize", 0, 7), ("realign", 0, 8))
BOOKS = (
    START, ((5, 4), (1, 1)), ((5, 4), (1, 1), (6, 2)), ((5, 4), (6, 2)), ((7, 4), (6, 2)), ((7, 8), (6, 2)),
)


def state(desk):
    """Return all that a desk tells of itself, with what it tells of taking back and doing again on a copy."""
    books = [desk.at(version) for version in range(desk.version + 1)]
    twin = desk.copy()
    again = []
    while answer(twin.redo)[0] == "returned":
        again.append((twin.version, twin.book, twin.log))
    return repr((desk.book, desk.version, desk.log, books, again))


def values():
    """Return values of all kinds, and what this package returned or raised."""
    return any_values() + [Desk(CALM), (Desk(CALM),), errors.NoVersion([1]), CALM, LOG]


def edit_of(numbers, book):
    """Return an edit that fits book."""
    word = numbers.choice(("resize", "realign", "add", "drop"))
    place = numbers.randrange(len(book))
    size = numbers.choice((1, 2, 3, 5, 8, 31, 64, TOP - 1, TOP))
    if word == "add" and len(book) < 6:
        return ("add", size, numbers.choice(ALIGNMENTS))
    if word == "drop" and len(book) > 1:
        return ("drop", place)
    if word == "realign":
        return ("realign", place, numbers.choice(ALIGNMENTS))
    return ("resize", place, size)


def edited(book, edit):
    """Return book behind an edit that fits."""
    word, arguments = edit[0], edit[1:]
    kinds = list(book)
    if word == "resize":
        kinds[arguments[0]] = (arguments[1], book[arguments[0]][1])
    elif word == "realign":
        kinds[arguments[0]] = (book[arguments[0]][0], arguments[1])
    elif word == "add":
        kinds.append(arguments)
    else:
        del kinds[arguments[0]]
    return tuple(kinds)


def done(desk, edit):
    """Do edit on desk, and return what it tells."""
    return getattr(desk, edit[0])(*edit[1:])


def desk_with(many):
    """Return a desk on which so many edits stand."""
    desk = Desk(START)
    for at in range(many):
        desk.resize(0, at + 1)
    return desk

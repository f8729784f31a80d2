"""Arrays and records as kinds, and the kinds that keep a book level."""

from fallingfields.bounds import MAX_SIZE
from fallingfields.errors import TooMany
from fallingfields.levels import level_error, require_level
from fallingfields.multiples import greatest_alignment, places_there
from fallingfields.rooms import room, rooms_whole


def array_kind(kind, many):
    """Return the kind of the array of so many fields of kind; raise TooMany(MAX_SIZE) if it is too large."""
    size, alignment = kind
    return kind_within((many - 1) * room(kind) + size, alignment)


def record_kind(book, record):
    """Return the kind of record as one field; raise Unlevel(pair) or, if it is too large, TooMany(MAX_SIZE)."""
    require_level(book)
    return kind_within(rooms_whole(book, record), greatest_alignment(book, places_there(record)))


def keeps_level(book, kind):
    """Return whether book is level with kind behind its kinds; raise Unlevel(pair) if it is not without it."""
    require_level(book)
    return level_error(book + (kind,)) is None


def kind_within(size, alignment):
    """Return the kind of this size and alignment; raise TooMany(MAX_SIZE) if the size is that of none."""
    if size > MAX_SIZE:
        raise TooMany(MAX_SIZE)
    return (size, alignment)

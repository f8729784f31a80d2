"""The rooms, lacks and units of books and of records."""

from fallingfields.multiples import greatest_alignment, places_there, power, round_up


def rooms(book):
    """Return the tuple of the rooms of all kinds of book, in order."""
    return tuple([room(kind) for kind in book])


def lacks(book):
    """Return the tuple of the lacks of all kinds of book, in order."""
    return tuple([room(kind) - kind[0] for kind in book])


def unit(book):
    """Return the unit of book: the least power of all its rooms."""
    return min([power(room(kind)) for kind in book])


def record_unit(book, record):
    """Return the unit of record: the least power of the rooms of the kinds that it has fields of."""
    return unit([book[place] for place in places_there(record)])


def rooms_whole(book, record):
    """Return the rooms of all fields of record together, rounded up to their greatest alignment."""
    together = sum([number * room(kind) for kind, number in zip(book, record)])
    return round_up(together, greatest_alignment(book, places_there(record)))


def room(kind):
    """Return the room of kind: its size, rounded up to a multiple of its alignment."""
    size, alignment = kind
    return round_up(size, alignment)

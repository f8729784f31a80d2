"""Level books, and layouts that are smaller than by every order of a book."""

from itertools import permutations

from fallingfields.books import is_tuple_within, pieces_error, record_error
from fallingfields.errors import Level, Unlevel
from fallingfields.multiples import fewest, places_there, power
from fallingfields.orders import order_whole
from fallingfields.pieces import pieces_record, pieces_whole
from fallingfields.rooms import lacks, rooms


def level_error(book):
    """Return None if book is level, otherwise the least pair of places by which it is not."""
    powers = [power(room) for room in rooms(book)]
    for x, lack in enumerate(lacks(book)):
        for y, least in enumerate(powers):
            if lack >= least:
                return (x, y)
    return None


def require_level(book):
    """Raise Unlevel(pair) if book is not level."""
    pair = level_error(book)
    if pair is not None:
        raise Unlevel(pair)


def beaten(book):
    """Return a record, and pieces of it that are smaller than by every order; raise Level() if there are none."""
    pair = level_error(book)
    if pair is None:
        raise Level()
    x, y = pair
    saved = power(rooms(book)[y])
    behind = fewest(rooms(book)[y], saved, book[x][1])
    # Each row takes so much less than its rooms; by an order no more than one lack of each kind is not lost.
    times = (lacks(book)[x] + lacks(book)[y]) // saved + 1
    pieces = (((x,) + (y,) * behind, times),)
    return (pieces_record(book, pieces), pieces)


def beaten_holds(book, value):
    """Return whether value is a record, and pieces of it that are smaller than by every order of book."""
    if not is_tuple_within(value, 2, 2):
        return False
    record, pieces = value
    if record_error(book, record) is not None or pieces_error(book, pieces) is not None:
        return False
    return pieces_record(book, pieces) == record and pieces_whole(book, pieces) < best_order_whole(book, record)


def best_order_whole(book, record):
    """Return the least whole of record by an order of book."""
    # Kinds without a field are passed over, so it is enough to put the others in order.
    there = places_there(record)
    return min([order_whole(book, order, record) for order in permutations(there)])

"""Kinds that are rounded up, and the lots of kinds with which a book comes to be level."""

from fallingfields.levels import level_error
from fallingfields.rooms import lacks, room, unit


def rounded(book, lot):
    """Return book with the kinds at the places of lot rounded up, and all others as they are."""
    return tuple([
        (room(kind), kind[1]) if place in lot else kind
        for place, kind in enumerate(book)
    ])


def least_lot(book):
    """Return the lot of the kinds that have to be rounded up: those whose lack is no less than the unit of book."""
    least = unit(book)
    return tuple([place for place, lack in enumerate(lacks(book)) if lack >= least])


def level_lots(book):
    """Return the ascending tuple of all lots with which, rounded up, book is level."""
    return tuple([lot for lot in all_lots(book) if level_error(rounded(book, lot)) is None])


def all_lots(book):
    """Return the ascending list of all lots of book."""
    lots = [()]
    for place in range(len(book)):
        lots = lots + [lot + (place,) for lot in lots]
    return sorted(lots)

"""What is no book, and what is no record, no row and no pieces of a book."""

from fallingfields.bounds import MAX_KINDS, MAX_MANY, MAX_PIECES, MAX_ROW, MAX_SIZE

ALIGNMENTS = (1, 2, 4, 8, 16, 32, 64)


def is_integer(value):
    """Return whether value is an integer: a bool is none."""
    return isinstance(value, int) and not isinstance(value, bool)


def is_integer_within(value, least, greatest):
    """Return whether value is an integer from least to greatest."""
    return is_integer(value) and least <= value <= greatest


def is_tuple_within(value, fewest, most):
    """Return whether value is a tuple of fewest to most items."""
    return isinstance(value, tuple) and fewest <= len(value) <= most


def is_size(value):
    """Return whether value is a size of a kind."""
    return is_integer_within(value, 1, MAX_SIZE)


def is_alignment(value):
    """Return whether value is an alignment of a kind."""
    return is_integer(value) and value in ALIGNMENTS


def is_kind(value):
    """Return whether value is a kind: a pair (size, alignment)."""
    return is_tuple_within(value, 2, 2) and is_size(value[0]) and is_alignment(value[1])


def is_place(book, value):
    """Return whether value is a place of book."""
    return is_integer_within(value, 0, len(book) - 1)


def is_piece(book, value):
    """Return whether value is a piece of book: a pair (row, times)."""
    if not is_tuple_within(value, 2, 2):
        return False
    row, times = value
    return row_error(book, row) is None and is_integer_within(times, 1, MAX_MANY)


def book_error(value):
    """Return None if value is a book, otherwise what is wrong with it."""
    if not is_tuple_within(value, 1, MAX_KINDS):
        return "form"
    for place, kind in enumerate(value):
        if not is_kind(kind):
            return ("kind", place)
    return None


def record_error(book, value):
    """Return None if value is a record of book, otherwise what is wrong with it."""
    if not is_tuple_within(value, len(book), len(book)):
        return "form"
    for place, number in enumerate(value):
        if not is_integer_within(number, 0, MAX_MANY):
            return ("number", place)
    if sum(value) == 0:
        return "empty"
    return None


def row_error(book, value):
    """Return None if value is a row of book, otherwise what is wrong with it."""
    if not is_tuple_within(value, 1, MAX_ROW):
        return "form"
    for at, place in enumerate(value):
        if not is_place(book, place):
            return ("place", at)
    return None


def pieces_error(book, value):
    """Return None if value is pieces of book, otherwise what is wrong with it."""
    if not is_tuple_within(value, 1, MAX_PIECES):
        return "form"
    for at, piece in enumerate(value):
        if not is_piece(book, piece):
            return ("piece", at)
    return None

"""The least whole of records with few fields, and a row that has it."""

from fallingfields.bounds import MAX_ROW, MAX_STATES
from fallingfields.errors import TooMany
from fallingfields.laying import row_end, row_whole
from fallingfields.multiples import places_there


def least_whole(book, record):
    """Return the least whole of all rows of the fields of record; raise TooMany(limit) if they are too many."""
    return row_whole(book, least_row(book, record))


def least_row(book, record):
    """Return a row of the fields of record with their least whole; raise TooMany(limit) if they are too many."""
    require_few(record)
    lasts = last_places(book, record)
    row = []
    part = record
    while part in lasts:
        row.append(lasts[part])
        part = one_fewer(part, lasts[part])
    return tuple(row[::-1])


def require_few(record):
    """Raise TooMany(MAX_ROW) if record has more fields than a row, TooMany(MAX_STATES) if it has too many parts."""
    if sum(record) > MAX_ROW:
        raise TooMany(MAX_ROW)
    many = 1
    for number in record:
        many = many * (number + 1)
    if many > MAX_STATES:
        raise TooMany(MAX_STATES)


def last_places(book, record):
    """Return a dict from each part of record with a field to the place of its last field if it ends earliest."""
    parts = parts_of(record)
    least_ends = {parts[0]: 0}
    lasts = {}
    # A part comes behind all that have fewer fields of some kind and no more of the others.
    for part in parts[1:]:
        ends = [
            (row_end(book, (place,), least_ends[one_fewer(part, place)]), place)
            for place in places_there(part)
        ]
        least_ends[part], lasts[part] = min(ends)
    return lasts


def parts_of(record):
    """Return the ascending list of all parts of record: tuples of how many of its fields of each kind they have."""
    parts = [()]
    for number in record:
        parts = [part + (some,) for part in parts for some in range(number + 1)]
    return parts


def one_fewer(part, place):
    """Return part with one field fewer of the kind at place."""
    return part[:place] + (part[place] - 1,) + part[place + 1:]

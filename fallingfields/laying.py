"""Rows of fields, laid one behind another."""

from fallingfields.multiples import greatest_alignment, round_up


def laid(book, row):
    """Return the tuple of the pairs (begin, end) of all fields of row, in order."""
    spans = []
    end = 0
    for place in row:
        begin, end = span_behind(book[place], end)
        spans.append((begin, end))
    return tuple(spans)


def row_whole(book, row):
    """Return the whole of row: where it ends, rounded up to its greatest alignment."""
    return round_up(row_end(book, row, 0), greatest_alignment(book, row))


def row_padding(book, row):
    """Return the whole of row less the sizes of all its fields."""
    return row_whole(book, row) - sum([book[place][0] for place in row])


def row_record(book, row):
    """Return the record of how many fields of each kind row has."""
    return tuple([row.count(place) for place in range(len(book))])


def row_end(book, row, end):
    """Return where the last field of row ends if row is laid behind what ends at end."""
    for place in row:
        _, end = span_behind(book[place], end)
    return end


def span_behind(kind, end):
    """Return the pair (begin, end) of a field of kind that is laid behind what ends at end."""
    size, alignment = kind
    begin = round_up(end, alignment)
    return (begin, begin + size)

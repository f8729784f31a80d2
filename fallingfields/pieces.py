"""Pieces: rows that are laid again and again, as one long row."""

from fallingfields.laying import row_end, row_record
from fallingfields.multiples import greatest_alignment, round_up


def pieces_whole(book, pieces):
    """Return the whole of pieces, laid as one long row."""
    end = 0
    for row, times in pieces:
        end = piece_end(book, row, times, end)
    return round_up(end, max([greatest_alignment(book, row) for row, _ in pieces]))


def pieces_record(book, pieces):
    """Return the tuple of how many fields of each kind pieces have in all."""
    record = [0] * len(book)
    for row, times in pieces:
        for place, number in enumerate(row_record(book, row)):
            record[place] += times * number
    return tuple(record)


def piece_end(book, row, times, end):
    """Return where row ends if it is laid so many times behind what ends at end."""
    # All alignments divide the row's greatest one, and a field with that one begins at a multiple of it.
    # So, modulo it, the row ends at the same place each time, and goes equally far from the second time on.
    first = row_end(book, row, end)
    second = row_end(book, row, first)
    return first + (times - 1) * (second - first)

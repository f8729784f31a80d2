"""Multiples, powers of 2, and the alignments of the fields that are there."""


def round_up(number, multiple):
    """Return the least multiple of multiple that is not below number."""
    return (number + multiple - 1) // multiple * multiple


def power(number):
    """Return the greatest power of 2 that divides number."""
    return number & -number


def places_there(record):
    """Return the list of the places of all kinds that record has fields of."""
    return [place for place, number in enumerate(record) if number > 0]


def greatest_alignment(book, places):
    """Return the greatest alignment of the kinds of book at places."""
    return max([book[place][1] for place in places])

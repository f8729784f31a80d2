"""Multiples, powers of 2, and the alignments of the fields that are there."""


def round_up(number, multiple):
    """Return the least multiple of multiple that is not below number."""
    return (number + multiple - 1) // multiple * multiple


def power(number):
    """Return the greatest power of 2 that divides number."""
    return number & -number


def fewest(step, rest, multiple):
    """Return the least number from 0 on of steps that together leave the same as rest modulo multiple."""
    # There has to be one: so it is where the power of step divides rest, and multiple is a power of 2.
    number = 0
    while (number * step - rest) % multiple != 0:
        number += 1
    return number


def places_there(record):
    """Return the list of the places of all kinds that record has fields of."""
    return [place for place, number in enumerate(record) if number > 0]


def alignments(book):
    """Return the ascending list of the alignments of the kinds of book, each once."""
    return sorted({alignment for _, alignment in book})


def greatest_alignment(book, places):
    """Return the greatest alignment of the kinds of book at places."""
    return max([book[place][1] for place in places])

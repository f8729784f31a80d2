"""What no layout of a record undercuts, and layouts that take just that."""

from fallingfields.errors import Few
from fallingfields.multiples import fewest, greatest_alignment, places_there, power, round_up
from fallingfields.rooms import lacks, record_unit, room, rooms, unit


def shares(book):
    """Return the tuple of the shares of all kinds: the lack of each modulo the unit of book."""
    least = unit(book)
    return tuple([lack % least for lack in lacks(book)])


def floor_whole(book, record):
    """Return the floor of record: no row of its fields has a lesser whole."""
    least = record_unit(book, record)
    together = sum([
        number * round_up(size, min(alignment, least))
        for (size, alignment), number in zip(book, record)
    ])
    return round_up(together, greatest_alignment(book, places_there(record)))


def needed(book, record):
    """Return the pairs (place, number) of the kinds with the record's unit, and of how many fields are enough."""
    there = places_there(record)
    least = record_unit(book, record)
    fillers = [place for place in there if power(rooms(book)[place]) == least]
    return tuple([
        (filler, sum([record[place] * fillers_behind(book, place, filler) for place in there]))
        for filler in fillers
    ])


def floor_pieces(book, record):
    """Return pieces of the fields of record whose whole is its floor; raise Few() if no kind has enough fields."""
    filler = filler_with_enough(book, record)
    pieces = []
    left = record[filler]
    for place in falling_places(book, record):
        if place != filler:
            behind = fillers_behind(book, place, filler)
            pieces.append(((place,) + (filler,) * behind, record[place]))
            left -= behind * record[place]
    if left > 0:
        pieces.append(((filler,), left))
    return tuple(pieces)


def filler_with_enough(book, record):
    """Return the first place of needed that record has enough fields of; raise Few() if there is none."""
    for place, number in needed(book, record):
        if record[place] >= number:
            return place
    raise Few()


def fillers_behind(book, place, filler):
    """Return how many fields of the kind at filler are needed behind one of the kind at place."""
    # The power of the filler's room is the record's unit: a lack below it is nothing to be filled.
    step = room(book[filler])
    spare = lacks(book)[place] // power(step) * power(step)
    return fewest(step, spare, book[place][1])


def falling_places(book, record):
    """Return the places that record has fields of, none with a greater alignment than the one ahead of it."""
    ranked = sorted([(-book[place][1], place) for place in places_there(record)])
    return [place for _, place in ranked]

"""Records laid by an order of their kinds, and the orders with falling alignments."""

from itertools import permutations

from fallingfields.multiples import greatest_alignment, places_there, round_up
from fallingfields.rooms import room


def order_whole(book, order, record):
    """Return the whole of record, laid by order."""
    end = 0
    for place in order:
        if record[place] > 0:
            end = kind_end(book[place], record[place], end)
    return round_up(end, greatest_alignment(book, places_there(record)))


def falling_orders(book):
    """Return the ascending tuple of all falling orders of book."""
    # Permutations of ascending places come in ascending order.
    return tuple([order for order in permutations(range(len(book))) if is_falling(book, order)])


def is_falling(book, order):
    """Return whether no kind in order has a greater alignment than the one ahead of it."""
    alignments = [book[place][1] for place in order]
    return alignments == sorted(alignments, reverse=True)


def kind_end(kind, many, end):
    """Return where many fields of kind end if they are laid side by side behind what ends at end."""
    # Each of them but the last one has its room: behind it the next one begins.
    size, alignment = kind
    return round_up(end, alignment) + (many - 1) * room(kind) + size

"""Peaks of the orders of level books, and how much more than the least whole an order may take."""

from itertools import combinations

from fallingfields.errors import Unfit
from fallingfields.levels import require_level
from fallingfields.multiples import alignments, fewest, power, round_up
from fallingfields.rooms import room


def peak_error(book, order):
    """Return the least peak of order, None if there is none; raise Unlevel(pair) if book is not level."""
    require_level(book)
    places = list(order)
    return min([triple for triple in combinations(places, 3) if is_peak(book, triple)], default=None)


def peak_record(book, order):
    """Return a record for which order is not least; raise Unlevel(pair), or Unfit() if order is least for all."""
    peak = peak_error(book, order)
    if peak is None:
        raise Unfit()
    i, j, k = peak
    record = [0] * len(book)
    record[j] = 1
    for place in (i, k):
        # Both powers together are no more than the alignment of j, but each of them alone is rounded up to it.
        step = room(book[place])
        record[place] = fewest(step, power(step), book[j][1])
    return tuple(record)


def greatest_excess(book, order):
    """Return the most bytes that order takes beyond the least whole; raise Unlevel(pair) if book is not level."""
    require_level(book)
    return max([excess_up_to(book, order, top) for top in alignments(book)])


def is_peak(book, triple):
    """Return whether triple, of places as an order has them, is a peak of that order."""
    i, j, k = triple
    top = book[j][1]
    return all([book[place][1] < top and room(book[place]) % top != 0 for place in (i, k)])


def excess_up_to(book, order, top):
    """Return the most bytes beyond the least whole of all records whose greatest alignment is top."""
    lost = {0: 0}
    for place in order:
        if book[place][1] <= top:
            lost = lost_behind(lost, book[place], top)
    # Without what was rounded up there are the rooms alone: these, rounded up, are the least whole. That is reckoned
    # also for records without a field of the alignment top; with such a field more they are no less beyond it.
    return max([round_up(reached, top) - round_up(reached - most, top) for reached, most in lost.items()])


def lost_behind(lost, kind, top):
    """Return lost as it is behind the next kind of an order, with any number of its fields or none.

    It is a dict from the places reached, modulo top, to the most that was rounded up so far. The most is enough:
    from the same place on, whatever comes, who has rounded up more is no less beyond the rooms in the end.
    """
    begun = {}
    stride = min(power(room(kind)), top)
    for reached, most in lost.items():
        begin = round_up(reached, kind[1])
        rest = begin % stride
        begun[rest] = max(begun.get(rest, 0), most + begin - reached)
    grown = dict(lost)
    for rest, most in begun.items():
        # So many fields as one likes reach each place with the same rest, and round up no more.
        for reached in range(rest, top, stride):
            grown[reached] = max(grown.get(reached, 0), most)
    return grown

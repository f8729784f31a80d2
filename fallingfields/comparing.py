"""Whether a record of one level book is ever larger than the same record of another one."""

from heapq import heappop, heappush

from fallingfields.errors import Unfit
from fallingfields.levels import require_level
from fallingfields.multiples import alignments
from fallingfields.rooms import room


def larger_record(one, other):
    """Return a record whose least whole by one is greater, None if there is none; raise Unfit() or Unlevel(pair)."""
    if len(one) != len(other):
        raise Unfit()
    require_level(one)
    require_level(other)
    for place, (kind, beside) in enumerate(zip(one, other)):
        if room(kind) > room(beside):
            return one_more((0,) * len(one), place)
    return record_larger_by_rounding(one, other)


def record_larger_by_rounding(one, other):
    """Return a record that is larger by one, None if there is none; no room of one is greater than that of other."""
    for top in alignments(one):
        for cap in alignments(other):
            if cap < top:
                record = record_rounded_further(one, other, top, cap)
                if record is not None:
                    return record
    return None


def record_rounded_further(one, other, top, cap):
    """Return a record that is larger by one, its greatest alignment top by one, at most cap by other; else None.

    A state is a triple: how much more the rooms of a record are by other, those by one modulo top, and the record.
    Of each rest modulo top the least more is enough, so that state alone is gone on from.
    """
    steps = steps_within(one, other, top, cap)
    nought = (0,) * len(one)
    # Fields with the alignment top leave the rest as it is: one of them, to begin with, is enough.
    queue = sorted([(more, rest, one_more(nought, place)) for place, rest, more in steps if one[place][1] == top])
    seen = {}
    while queue:
        more, rest, record = heappop(queue)
        # By one the rest is rounded up to top, by other both together to a multiple of cap below top at the most.
        if rest > 0 and rest + more <= top - cap:
            return record
        if rest not in seen and more < top - cap:
            seen[rest] = True
            for place, further, beyond in steps:
                heappush(queue, (more + beyond, (rest + further) % top, one_more(record, place)))
    return None


def steps_within(one, other, top, cap):
    """Return triples of each place with at most these alignments: it, its room modulo top, how much more by other."""
    return [
        (place, room(kind) % top, room(beside) - room(kind))
        for place, (kind, beside) in enumerate(zip(one, other))
        if kind[1] <= top and beside[1] <= cap
    ]


def one_more(record, place):
    """Return record with one field more of the kind at place."""
    return record[:place] + (record[place] + 1,) + record[place + 1:]

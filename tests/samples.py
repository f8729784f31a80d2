"""Values and books that the tests share, and rows reckoned by hand."""

import itertools
import random

from fallingfields import errors

TOP = 10 ** 30
ALIGNMENTS = (1, 2, 4, 8, 16, 32, 64)

CALM = ((6, 4), (3, 2))
THIN = ((6, 4), (3, 1))
SIX = ((1, 1), (2, 2), (3, 4), (10 ** 30, 64), (5, 8), (7, 16))
PAIR = ((6, 4), (3, 2))
TAIL = ((9, 8), (1, 1), (2, 2))
TRIO = ((2, 2), (7, 8), (3, 4))
WIDE = ((10 ** 30, 64), (10 ** 30 - 1, 2), (48, 16))
HUGE = 10 ** 399


def nested(depth):
    """Return a tuple in a tuple, and so on, so many deep."""
    value = (1,)
    for _ in range(depth - 1):
        value = (value,)
    return value


def any_values():
    """Return values of all kinds that may be passed as value, newly made, none of them right for any call."""
    return [
        None, True, False, 0, 1, -1, 3, 10 ** 30, 10 ** 30 + 1, HUGE, -HUGE,
        "", " ", "\n", "a", "form", "6/4", "(6, 4)", "x" * 20000, "9" * 20000, "1 " * 9999 + "1",
        [], [6, 4], [(6, 4)], [[6, 4], [3, 2]], [None] * 4000,
        {}, {"6": 4}, {0: (6, 4)}, {(6, 4): [1], None: {True: "a"}},
        (), (None,), (True,), ("6", "4"), ((),), ((), ()), ([], {}), nested(20), (None,) * 4000,
        errors.FieldsError(), errors.Unfit(), errors.BadBook(("kind", 1)), (errors.TooMany(100),),
    ]


def answer(call):
    """Return what call tells in a form that tells True from 1: its result, or its error and what that holds."""
    try:
        result = call()
    except errors.FieldsError as error:
        return ("raised", type(error), repr(vars(error)))
    return ("returned", repr(result))


def sizes_about(alignment):
    """Return sizes about multiples of alignment, the least and the greatest sizes among them."""
    near = [many * alignment + off for many in (1, 2, 3, 5, 63, 64) for off in (-1, 0, 1)]
    far = [TOP - alignment - 1, TOP - alignment, TOP - alignment + 1, TOP - 1, TOP]
    return sorted({size for size in [1, 2, 3] + near + far if size >= 1})


def some_books(many, most_kinds, seed):
    """Return so many books, the same for the same seed: small sizes and great ones, alike kinds among them."""
    numbers = random.Random(seed)
    books = []
    for _ in range(many):
        alignments = numbers.sample(ALIGNMENTS, numbers.randint(1, 7))
        kinds = []
        for _ in range(numbers.randint(1, most_kinds)):
            alignment = numbers.choice(alignments)
            small = numbers.randint(1, numbers.choice((3, 3 * alignment)))
            kinds.append((numbers.choice((small, small, small, numbers.choice(sizes_about(alignment)))), alignment))
        books.append(tuple(kinds))
    return books


def some_rows(book, many, longest, seed):
    """Return so many rows of book, the same for the same seed, of one kind alone and of all kinds among them."""
    numbers = random.Random(seed)
    rows = []
    for _ in range(many):
        places = numbers.sample(range(len(book)), numbers.randint(1, len(book)))
        rows.append(tuple(numbers.choice(places) for _ in range(numbers.randint(1, longest))))
    return rows


def some_records(book, many, greatest, seed):
    """Return so many records of book, the same for the same seed, with noughts among their numbers."""
    numbers = random.Random(seed)
    records = []
    while len(records) < many:
        record = tuple(numbers.choice((0, numbers.randint(0, greatest))) for _ in book)
        if sum(record) > 0:
            records.append(record)
    return records


def orders_of(book):
    """Return all orders of book."""
    return list(itertools.permutations(range(len(book))))


def all_records(kinds, most):
    """Return all records of so many kinds with at most so many fields of each."""
    return [record for record in itertools.product(range(most + 1), repeat=kinds) if sum(record) > 0]


def all_rows(record):
    """Return all rows with just the fields of record."""
    if sum(record) == 0:
        return [()]
    rows = []
    for place, number in enumerate(record):
        if number > 0:
            fewer = record[:place] + (number - 1,) + record[place + 1:]
            rows += [(place,) + row for row in all_rows(fewer)]
    return rows


def small_books(kinds, alignments, most):
    """Return all books of so many kinds with these alignments and sizes from 1 to most."""
    each = [(size, alignment) for alignment in alignments for size in range(1, most + 1)]
    return list(itertools.product(each, repeat=kinds))


def level_kind(numbers, unit, alignment, most):
    """Return a kind of a level book with this unit, its room at most so many multiples of the least it may be."""
    step = max(unit, alignment)
    return (numbers.randint(1, most) * step - numbers.randrange(min(unit, alignment)), alignment)


def some_level_books(many, kinds, seed, alignments=ALIGNMENTS):
    """Return so many level books of so many kinds, the same for the same seed: small rooms and great ones."""
    numbers = random.Random(seed)
    books = []
    for _ in range(many):
        unit = numbers.choice((1, 1, 1, 2, 2, 4, 8, 64))
        of = numbers.sample(alignments, numbers.randint(1, len(alignments)))
        most = [numbers.choice((1, 3, 9, 9, TOP // 64)) for _ in range(kinds)]
        books.append(tuple(level_kind(numbers, unit, numbers.choice(of), number) for number in most))
    return books


def next_multiple(number, multiple):
    """Return the first multiple of multiple from number on, found by going on one by one."""
    while number % multiple != 0:
        number += 1
    return number


def room_by_hand(kind):
    """Return the room of kind."""
    size, alignment = kind
    return next_multiple(size, alignment)


def lack_by_hand(kind):
    """Return the lack of kind."""
    return room_by_hand(kind) - kind[0]


def power_by_hand(number):
    """Return the greatest power of 2 that divides number, found by going on one by one."""
    power = 1
    while number % (2 * power) == 0:
        power *= 2
    return power


def unlevel_pairs(book):
    """Return all pairs of places by which book is not level."""
    return [
        (x, y) for x, y in itertools.product(range(len(book)), repeat=2)
        if lack_by_hand(book[x]) >= power_by_hand(room_by_hand(book[y]))
    ]


def rooms_whole_by_hand(book, record):
    """Return the sum of the rooms of all fields of record, rounded up to their greatest alignment."""
    there = [(kind, number) for kind, number in zip(book, record) if number > 0]
    together = sum(number * room_by_hand(kind) for kind, number in there)
    return next_multiple(together, max(alignment for (_, alignment), _ in there))


def spans_by_hand(book, row, end=0):
    """Return the list of the pairs (begin, end) of the fields of row, reckoned field by field."""
    spans = []
    for place in row:
        begin = next_multiple(end, book[place][1])
        end = begin + book[place][0]
        spans.append((begin, end))
    return spans


def whole_by_hand(book, row):
    """Return the whole of row, reckoned field by field."""
    return next_multiple(spans_by_hand(book, row)[-1][1], max(book[place][1] for place in row))


def written_out(pieces):
    """Return pieces as one long row."""
    return tuple(place for row, times in pieces for _ in range(times) for place in row)


def pieces_whole_by_doubling(book, pieces):
    """Return the whole of pieces from how far 1, 2, 4, 8 .. rows go from each place modulo 64."""
    end = 0
    for row, times in pieces:
        jumps = [spans_by_hand(book, row, start)[-1][1] - start for start in range(64)]
        while times > 0:
            if times % 2 == 1:
                end += jumps[end % 64]
            jumps = [jump + jumps[(start + jump) % 64] for start, jump in enumerate(jumps)]
            times //= 2
    return next_multiple(end, max(book[place][1] for row, _ in pieces for place in row))

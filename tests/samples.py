"""Values and books that the tests share."""

from fallingfields import errors

CALM = ((6, 4), (3, 2))
THIN = ((6, 4), (3, 1))
SIX = ((1, 1), (2, 2), (3, 4), (10 ** 30, 64), (5, 8), (7, 16))
HUGE = 10 ** 399


def nested(depth):
    """Return a tuple in a tuple, and so on, so many deep."""
    value = (1,)
    for _ in range(depth - 1):
        value = (value,)
    return value


def any_values():
    """Return values of all kinds that may be passed as value, newly made, none of them right for any call."""
    return [
        None, True, False, 0, 1, -1, 3, 10 ** 30, 10 ** 30 + 1, HUGE, -HUGE,
        "", " ", "\n", "a", "form", "6/4", "(6, 4)", "x" * 20000, "9" * 20000, "1 " * 9999 + "1",
        [], [6, 4], [(6, 4)], [[6, 4], [3, 2]], [None] * 4000,
        {}, {"6": 4}, {0: (6, 4)}, {(6, 4): [1], None: {True: "a"}},
        (), (None,), (True,), ("6", "4"), ((),), ((), ()), ([], {}), nested(20), (None,) * 4000,
        errors.FieldsError(), errors.Unfit(), errors.BadBook(("kind", 1)), (errors.TooMany(100),),
    ]


def answer(call):
    """Return what call tells in a form that tells True from 1: its result, or its error and what that holds."""
    try:
        result = call()
    except errors.FieldsError as error:
        return ("raised", type(error), repr(vars(error)))
    return ("returned", repr(result))

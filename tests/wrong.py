"""Things of every kind that are no whole numbers, and that are no numbers."""

from collections import OrderedDict


class Thing:
    """An object that is nothing the package knows."""


def nothing():
    """A function, handed in as a thing."""


NOT_WHOLE = [
    None, True, False, "", "1", "1/2", b"", b"1", bytearray(b"1"), [], [1], [1, 1], {}, {1: 1}, set(), {1, 2},
    frozenset([1]), (), (1,), (1, 1), (1, 1, 1), range(2), Ellipsis, NotImplemented, Thing(), Thing, nothing,
    int, OrderedDict(),
]

HUGE = 10 ** 5000

NOT_NUMBERS = [value for value in NOT_WHOLE if value != (1, 1)] + [
    0, 1, -1, HUGE, (0, 0), (1, 0), (-1, 0), (1, -1), (0, -1), (-1, -2), (2, 2), (0, 2), (2, 4), (-2, 4), (6, 3),
    (-6, 3), (HUGE, HUGE), (HUGE * 3, 6), (HUGE + 1, -HUGE), (None, 1), (1, None), (True, 1), (1, True), (False, 1),
    (True, True), ("1", 1), (1, "1"), (b"1", 1), (1, b"1"), ([1], 1), (1, [1]), ((1,), 1), (1, (1,)),
    ((1, 1), (1, 1)), ({}, 1), (1, {}), (Thing(), 1), (1, Thing()), (1, 1, 1), (1, 2, None), [1, 2], [0, 1],
    {0: 1, 1: 2}, "12", b"12", {1, 2},
]

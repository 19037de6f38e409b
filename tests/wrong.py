"""Things of every kind that are no whole numbers, and that are no numbers."""

from collections import OrderedDict


class Thing:
    """An object that is nothing the package knows."""


def nothing():
    """A function, handed in as a thing."""


NOT_WHOLE = [
    None, True, False, "", "1", "1/2", b"", b"1", bytearray(b"1"), [], [1], [1, 1], {}, {1: 1}, set(), {1, 2},
    frozenset([1]), (), (1,), (1, 1), (1, 1, 1), range(2), Ellipsis, NotImplemented, Thing(), Thing, nothing,
    int, OrderedDict(),
]

HUGE = 10 ** 5000

NOT_NUMBERS = [value for value in NOT_WHOLE if value != (1, 1)] + [
    0, 1, -1, HUGE, (0, 0), (1, 0), (-1, 0), (1, -1), (0, -1), (-1, -2), (2, 2), (0, 2), (2, 4), (-2, 4), (6, 3),
    (-6, 3), (HUGE, HUGE), (HUGE * 3, 6), (HUGE + 1, -HUGE), (None, 1), (1, None), (True, 1), (1, True), (False, 1),
    (True, True), ("1", 1), (1, "1"), (b"1", 1), (1, b"1"), ([1], 1), (1, [1]), ((1,), 1), (1, (1,)),
    ((1, 1), (1, 1)), ({}, 1), (1, {}), (Thing(), 1), (1, Thing()), (1, 1, 1), (1, 2, None), [1, 2], [0, 1],
    {0: 1, 1: 2}, "12", b"12", {1, 2},
]

IN = ("in", 0)

BAD_PROGRAMS = NOT_WHOLE + [
    0, 1, (0, [IN]), (4, [IN]), (True, [IN]), (1, []), (1, [("in", 1)]), (1, [("is", (2, 2))]), (1, [("sum", 0, 0)]),
    (1, [IN, ("by", (1, 1), 1)]), (1, [IN, ("least", 0)]), (1, [IN, ("if", 0, 0, False)]), (1, (IN,)), [1, [IN]],
    (1, [IN] * 121), (1, [IN] + [("most", 0, 0)] * 9), (1, [IN, ("turns", 6, 0, [IN] * 20)]),
    (1, [IN, ("turns", 7, 0, [IN])]), (1, [IN, ("turns", 1, 0, [IN, ("turns", 1, 0, [IN])])]),
]

NOT_NUMBER_LISTS = [value for value in NOT_WHOLE if not isinstance(value, list)] + [
    0, 1, (1, 2), ((1, 2),), ((1, 1), (1, 1)), {0: (1, 2)},
]


def bad_pictures(make):
    """Things that are no pictures, the class of pictures being handed in."""
    places, worths, pieces = [(0, 1), (1, 2), (1, 1)], [(5, 1), (6, 1), (7, 1)], [((1, 1), (2, 1)), ((3, 1), (-1, 2))]
    bad = NOT_WHOLE + [0, 1, (places, worths, pieces), [places, worths, pieces], make]
    for wrong in NOT_NUMBERS:
        bad.extend([
            make([wrong, (1, 2), (1, 1)], worths, pieces), make([(0, 1), (1, 2), wrong], worths, pieces),
            make(places, [(5, 1), wrong, (7, 1)], pieces), make(places, worths, [pieces[0], (wrong, (1, 1))]),
            make(places, worths, [((1, 1), wrong), pieces[1]]),
        ])
        # A tuple of two numbers is no number, but it is a piece.
        if wrong != ((1, 1), (1, 1)):
            bad.append(make(places, worths, [wrong, pieces[1]]))
    for many in range(6):
        if many != 3:
            bad.append(make([(at, 1) for at in range(many)], worths, pieces))
            bad.append(make(places, [(1, 1)] * many, pieces))
        if many != 2:
            bad.append(make(places, worths, [((1, 1), (1, 1))] * many))
    bad.extend([make([], [], []), make([(0, 1)], [(0, 1)], []), make([(0, 1)], [(0, 1)], [((0, 1), (0, 1))])])
    for unsorted in ([(0, 1), (0, 1), (1, 1)], [(0, 1), (1, 1), (1, 1)], [(1, 1), (1, 2), (0, 1)],
                     [(0, 1), (1, 1), (1, 2)], [(0, 1), (-1, 2), (1, 1)]):
        bad.append(make(unsorted, worths, pieces))
    for piece in ([(1, 1), (1, 1)], ((1, 1),), ((1, 1), (1, 1), (1, 1)), ((1, 1), 1), (1, (1, 1)), (), []):
        bad.append(make(places, worths, [pieces[0], piece]))
    for name, fitting in (("places", places), ("worths", worths), ("pieces", pieces)):
        for other in [value for value in NOT_WHOLE if value != fitting] + [7, tuple(fitting), dict(enumerate(fitting))]:
            changed = make(places, worths, pieces)
            setattr(changed, name, other)
            bad.append(changed)
    return bad

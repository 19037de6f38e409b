"""All functions of the interface: what they take, and in which turn they refuse."""

from bendwright import (
    errors, finding, mixing, pictures, programs, resting, running, shares, sides, slopes, tuning, turning,
)
from bendwright.pictures import Picture
from tests.wrong import BAD_PROGRAMS, NOT_NUMBER_LISTS, NOT_NUMBERS, NOT_WHOLE, bad_pictures

NIL, ONE, TWO, HALF = (0, 1), (1, 1), (2, 1), (1, 2)
X, Y = ("in", 0), ("in", 1)


def fold():
    """Bends at 0, with turns and a body of its own."""
    body = [X, ("is", HALF), ("sum", 0, 1), ("by", (-1, 1), 1), ("sum", 2, 3)]
    return (1, [X, ("by", (-1, 1), 0), ("most", 0, 1), ("turns", 2, 2, body)])


def slide():
    """A program of two inputs that bends and jumps."""
    body = [X, ("sum", 0, 0)]
    return (2, [X, Y, ("sum", 0, 1), ("most", 0, 1), ("is", (3, 1)), ("if", 2, 3, 4), ("turns", 1, 5, body)])


def plain(many, inputs=1):
    """So many steps that need each other."""
    return (inputs, [X] + [("sum", at, 0) for at in range(many - 1)])


def rise():
    """Rises without jumps, with a place that isn't needed."""
    return Picture([NIL, HALF, ONE, TWO], [NIL, HALF, ONE, (3, 1)], [(NIL, ONE), (HALF, ONE), (ONE, TWO)])


def jump():
    """Jumps within and at both ends."""
    return Picture([NIL, ONE, TWO], [ONE, (5, 1), (7, 1)], [(NIL, ONE), (TWO, NIL)])


def fall():
    """Falls without jumps."""
    return Picture([NIL, TWO], [TWO, NIL], [(TWO, (-1, 1))])


def elsewhere(high):
    """Over another stretch."""
    return Picture([NIL, high], [NIL, high], [(NIL, ONE)])


def no_lists(many):
    """Things that are no lists of so many numbers."""
    wrong = [[value] + [NIL] * (many - 1) for value in NOT_NUMBERS] + [[NIL] * (many - 1) + [(2, 2)]]
    return NOT_NUMBER_LISTS + wrong + [[NIL] * other for other in range(5) if other != many]


def no_counts(many):
    """Things that count none of so many."""
    return NOT_WHOLE + [-1, many, many + 1, NIL, 10 ** 3000]


NO_PROGRAM = (errors.BadProgram, 0, BAD_PROGRAMS)
NO_PICTURE = (errors.BadPicture, 0, bad_pictures(Picture))
NO_OTHER_PICTURE = (errors.BadPicture, 1, bad_pictures(Picture))
UNLIKE = [(errors.Others, 0, [elsewhere(ONE)]), (errors.Others, 1, [elsewhere(HALF)])]
NO_WAYS = (errors.BadWays, 2, no_lists(2))
NO_WHOLES = [(errors.BadNumber, at, NOT_WHOLE) for at in range(2)]
NO_PLACE = (errors.BadPlaces, 1, NOT_NUMBERS + [(-1, 1), (3, 1)])
NO_PLACES = (errors.BadPlaces, 1, no_lists(2))
NO_NUMBERS = [(errors.BadNumber, at, NOT_NUMBERS) for at in range(2)]
OTHERS_THAN_ONE = (errors.Others, 0, [slide(), (3, [X])])


def stretch(low):
    """What is no stretch, its first number handed in with that count."""
    return [(errors.BadStretch, low, NOT_NUMBERS + [TWO, (3, 1)]), (errors.BadStretch, low + 1, NOT_NUMBERS + [NIL])]


# For each function what makes its arguments, and its refusals in their turn: the error, which argument, and bad ones.
DOORS = {
    shares.made: (lambda: [6, 4], NO_WHOLES + [(errors.BadNumber, 1, [0])]),
    shares.plus: (lambda: [HALF, TWO], NO_NUMBERS),
    shares.less: (lambda: [HALF, TWO], NO_NUMBERS),
    shares.times: (lambda: [HALF, TWO], NO_NUMBERS),
    shares.over: (lambda: [HALF, TWO], NO_NUMBERS + [(errors.BadNumber, 1, [NIL])]),
    shares.order: (lambda: [HALF, TWO], NO_NUMBERS),
    programs.size: (lambda: [fold()], [NO_PROGRAM]),
    running.worths: (lambda: [slide(), [HALF, TWO]], [NO_PROGRAM, NO_PLACES]),
    running.worth: (lambda: [slide(), [HALF, TWO]], [NO_PROGRAM, NO_PLACES]),
    turning.unrolled: (lambda: [fold()], [NO_PROGRAM]),
    turning.shortened: (lambda: [fold()], [NO_PROGRAM]),
    turning.behind: (lambda: [fold(), slide()], [
        NO_PROGRAM, (errors.BadProgram, 1, BAD_PROGRAMS), (errors.Others, 0, [slide(), (3, [X])]),
        (errors.BadProgram, 1, [plain(120), plain(107, 2), (1, [X] + [("most", 0, 0)] * 8)]),
    ]),
    turning.stirred: (lambda: [slide(), 2], [
        NO_PROGRAM, (errors.BadStep, 1, no_counts(120)), (errors.BadProgram, 0, [plain(119), (3, plain(120)[1])]),
    ]),
    turning.fixed: (lambda: [slide(), [HALF, TWO], 1], [NO_PROGRAM, NO_PLACES, (errors.BadStep, 2, no_counts(2))]),
    sides.side: (lambda: [slide(), [HALF, TWO], [ONE, HALF]], [NO_PROGRAM, NO_PLACES, NO_WAYS]),
    pictures.picture: (lambda: [fold(), HALF, TWO], [NO_PROGRAM, OTHERS_THAN_ONE, *stretch(1)]),
    pictures.worth_at: (lambda: [jump(), ONE], [NO_PICTURE, NO_PLACE]),
    pictures.limits: (lambda: [jump(), ONE], [NO_PICTURE, NO_PLACE]),
    pictures.tidy: (lambda: [rise()], [NO_PICTURE]),
    pictures.mirrored: (lambda: [rise()], [NO_PICTURE]),
    pictures.scaled: (lambda: [rise(), HALF], [NO_PICTURE, (errors.BadPicture, 1, NOT_NUMBERS)]),
    mixing.together: (lambda: [rise(), jump()], [NO_PICTURE, NO_OTHER_PICTURE, *UNLIKE]),
    mixing.lesser: (lambda: [rise(), jump()], [NO_PICTURE, NO_OTHER_PICTURE, *UNLIKE]),
    mixing.greater: (lambda: [rise(), jump()], [NO_PICTURE, NO_OTHER_PICTURE, *UNLIKE]),
    mixing.compared: (lambda: [rise(), jump()], [NO_PICTURE, NO_OTHER_PICTURE, *UNLIKE]),
    finding.least: (lambda: [jump()], [NO_PICTURE]),
    finding.greatest: (lambda: [rise()], [NO_PICTURE]),
    finding.area: (lambda: [jump()], [NO_PICTURE]),
    finding.rising: (lambda: [jump()], [NO_PICTURE]),
    finding.jumps: (lambda: [jump()], [NO_PICTURE]),
    finding.spans: (lambda: [jump(), TWO], [NO_PICTURE, (errors.BadNumber, 1, NOT_NUMBERS)]),
    finding.backwards: (lambda: [rise()], [NO_PICTURE, (errors.NoBack, 0, [jump(), fall()])]),
    slopes.slope_at: (lambda: [fold(), NIL], [NO_PROGRAM, OTHERS_THAN_ONE, (errors.BadPlaces, 1, NOT_NUMBERS)]),
    slopes.flat: (lambda: [slide(), [NIL, NIL]], [NO_PROGRAM, (errors.Others, 0, [fold(), (3, [X])]), NO_PLACES]),
    resting.marks: (lambda: [fold()], [NO_PROGRAM]),
    resting.descent: (lambda: [rise(), TWO], [NO_PICTURE, (errors.Jumpy, 0, [jump()]), NO_PLACE]),
    resting.rests: (lambda: [rise(), TWO], [NO_PICTURE, (errors.Jumpy, 0, [jump()]), NO_PLACE]),
    tuning.carried: (lambda: [slide(), [HALF, TWO], [ONE, HALF]], [
        NO_PROGRAM, NO_PLACES, NO_WAYS, (errors.BadProgram, 0, [plain(101, 2), plain(120, 2)]),
    ]),
    tuning.tuned: (lambda: [slide(), [HALF, TWO], 2, NIL, TWO, (9, 2)], [
        NO_PROGRAM, NO_PLACES, (errors.BadStep, 2, no_counts(120)), (errors.BadProgram, 0, [plain(119, 2)]),
        *stretch(3), (errors.BadNumber, 5, NOT_NUMBERS),
    ]),
}

"""Sides of programs: what they come to along ways, and how far."""

from bendwright.errors import BadWays
from bendwright.pieces import (
    greater_piece,
    is_above,
    lesser_piece,
    moved,
    passing,
    piece_gap,
    piece_product,
    piece_sum,
    worth_behind,
)
from bendwright.programs import check_program
from bendwright.running import anew, check_places, lesser_of, run
from bendwright.shares import are_numbers, order_of, sum_of


class Side:
    """The worth at places, and what it is along ways from there, up to a reach."""

    def __init__(self, value, beyond, slope, reach):
        self.value = value
        self.beyond = beyond
        self.slope = slope
        self.reach = reach

    def shows(self, far):
        """The worth that the side tells so far along, None from the reach on."""
        if self.reach is not None and order_of(far, self.reach) >= 0:
            return None
        return worth_behind((self.beyond, self.slope), far)


def check_ways(program, ways):
    """Refuse what is no list of a number for each input of the program."""
    if not are_numbers(ways, program[0]):
        raise BadWays("ways are a list of a number for each input")


def nearer(one, other):
    """The lesser one of two reaches; None stands for one without an end."""
    if one is None:
        return other
    if other is None:
        return one
    return lesser_of(one, other)


def starts_of(places, ways):
    """The pieces of the inputs from the places along the ways, new throughout."""
    return [(anew(place), anew(way)) for place, way in zip(places, ways)]


def level_piece(number, like):
    """The piece of a number that stays, as long as another piece."""
    return (anew(number), *[(0, 1) for part in like[1:]])


def turned_piece(many, start, body):
    """The piece of a body done so many times, and how far it holds."""
    piece = start
    reach = None
    for turn in range(many):
        piece, far = straight(body, [piece])
        reach = nearer(reach, far)
    return (piece, reach)


def step_piece(step, starts, ahead):
    """The piece of a step, by those of the inputs and of the steps ahead, and how far its own choices hold."""
    word = step[0]
    if word == "is":
        return (level_piece(step[1], starts[0]), None)
    if word == "in":
        return (starts[step[1]], None)
    if word == "by":
        return (piece_product(step[1], ahead[step[2]]), None)
    if word == "turns":
        return turned_piece(step[1], ahead[step[2]], step[3])
    one, other = ahead[step[1]], ahead[step[2]]
    if word == "sum":
        return (piece_sum(one, other), None)
    if word == "least":
        return (lesser_piece(one, other), passing(piece_gap(one, other)))
    if word == "most":
        return (greater_piece(one, other), passing(piece_gap(one, other)))
    return (ahead[step[3]] if is_above(one) else other, passing(one))


def straight(steps, starts):
    """The piece of the last step, by those of the inputs, and how far behind it all choices surely hold.

    There some choice changes sides, but the worth may go on as it was.
    """
    pieces = []
    reach = None
    for step in steps:
        piece, far = step_piece(step, starts, pieces)
        pieces.append(piece)
        reach = nearer(reach, far)
    return (pieces[-1], reach)


def held(steps, starts, piece, reach):
    """How far the worth goes on as the piece, which it surely does up to the reach."""
    while reach is not None:
        there = [moved(start, reach) for start in starts]
        ongoing = moved(piece, reach)
        if run(steps, [start[0] for start in there])[-1] != ongoing[0]:
            return reach
        onward, far = straight(steps, there)
        if onward != ongoing:
            return reach
        reach = None if far is None else sum_of(reach, far)
    return reach


def side(program, places, ways):
    """The side of the program from the places along the ways."""
    check_program(program)
    check_places(program, places)
    check_ways(program, ways)
    steps = program[1]
    starts = starts_of(places, ways)
    piece, reach = straight(steps, starts)
    return Side(run(steps, places)[-1], piece[0], piece[1], held(steps, starts, piece, reach))

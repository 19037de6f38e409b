"""Programs carried along ways, and numbers tuned."""

from bendwright.errors import BadNumber, BadProgram
from bendwright.finding import spans_of
from bendwright.pictures import check_stretch, picture
from bendwright.programs import check_program, counts
from bendwright.running import anew, check_places
from bendwright.shares import is_number
from bendwright.sides import check_ways
from bendwright.turning import check_stirring, fixed, put_behind, stirred

MOST_CARRIED = 100


def put_inputs(told, places, ways):
    """Put the inputs behind the steps told, the first of which tells how far; their counts."""
    found = []
    for place, way in zip(places, ways):
        told.append(("is", anew(place)))
        told.append(("by", anew(way), 0))
        told.append(("sum", len(told) - 2, len(told) - 1))
        found.append(len(told) - 1)
    return found


def carried(program, places, ways):
    """The program of one input that has at t the worth at the places and t times the ways."""
    check_program(program)
    check_places(program, places)
    check_ways(program, ways)
    steps = program[1]
    if counts(steps)[0] > MOST_CARRIED:
        raise BadProgram("too many steps run to be carried")
    told = [("in", 0)]
    last = put_behind(told, steps, put_inputs(told, places, ways))
    return (1, told[:last + 1])


def tuned(program, places, at, low, high, number):
    """The spans of what gives, added to the worth of the step, the program the worth at the places."""
    check_program(program)
    check_places(program, places)
    check_stirring(program, at)
    check_stretch(low, high)
    if not is_number(number):
        raise BadNumber("a worth is a number")
    # What is added is the last input of the stirred program.
    added = fixed(stirred(program, at), [*places, (0, 1)], program[0])
    return spans_of(picture(added, low, high), number)

"""Programs run at places."""

from bendwright.errors import BadPlaces
from bendwright.programs import check_program
from bendwright.shares import are_numbers, order_of, product_of, sum_of


def check_places(program, places):
    """Refuse what is no list of a number for each input of the program."""
    if not are_numbers(places, program[0]):
        raise BadPlaces("places are a list of a number for each input")


def anew(number):
    """The same number in a tuple of its own: what is told is never what was handed in."""
    return (number[0], number[1])


def lesser_of(one, other):
    """The lesser one of two numbers."""
    return one if order_of(one, other) < 0 else other


def greater_of(one, other):
    """The greater one of two numbers."""
    return one if order_of(one, other) > 0 else other


def turned(many, start, body):
    """What comes of the body done so many times from the start on."""
    reached = start
    for turn in range(many):
        reached = run(body, [reached])[-1]
    return reached


def step_worth(step, places, ahead):
    """The worth of a step, by the worths of the steps ahead of it."""
    word = step[0]
    if word == "is":
        return anew(step[1])
    if word == "in":
        return anew(places[step[1]])
    if word == "sum":
        return sum_of(ahead[step[1]], ahead[step[2]])
    if word == "by":
        return product_of(step[1], ahead[step[2]])
    if word == "least":
        return lesser_of(ahead[step[1]], ahead[step[2]])
    if word == "most":
        return greater_of(ahead[step[1]], ahead[step[2]])
    if word == "if":
        return ahead[step[2]] if ahead[step[1]][0] <= 0 else ahead[step[3]]
    return turned(step[1], ahead[step[2]], step[3])


def run(steps, places):
    """The worths of all steps, unchecked."""
    found = []
    for step in steps:
        found.append(step_worth(step, places, found))
    return found


def worths(program, places):
    """The worths of all steps of the program at the places."""
    check_program(program)
    check_places(program, places)
    return run(program[1], places)


def worth(program, places):
    """The worth of the program at the places."""
    return worths(program, places)[-1]

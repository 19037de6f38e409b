"""Steps that bulge down or up by their form, and where pictures rest."""

from bendwright.errors import Jumpy
from bendwright.finding import jumps_of
from bendwright.pictures import check_picture, check_place, last_up_to, limits_within, tidied
from bendwright.programs import check_program
from bendwright.running import anew

EXCHANGED = {"level": "level", "straight": "straight", "down": "up", "up": "down", "none": "none"}


def sum_mark(one, other):
    """The mark of two marked steps together."""
    both = (one, other)
    if "none" in both or ("down" in both and "up" in both):
        return "none"
    for mark in ("down", "up", "straight"):
        if mark in both:
            return mark
    return "level"


def by_mark(number, mark):
    """The mark of a marked step so many times."""
    if number[0] == 0:
        return "level"
    return mark if number[0] > 0 else EXCHANGED[mark]


def choice_mark(one, other, bulge):
    """The mark of the lesser or the greater of two marked steps, which at best bulges as told."""
    if one == "level" and other == "level":
        return "level"
    if EXCHANGED[bulge] in (one, other) or "none" in (one, other):
        return "none"
    return bulge


def turned_mark(many, start, body):
    """The mark of a body done so many times from a marked step on."""
    mark = start
    for turn in range(many):
        mark = marked(body, mark)[-1]
    return mark


def step_mark(step, inlet, ahead):
    """The mark of a step, by the inputs' mark and those of the steps ahead."""
    word = step[0]
    if word == "is":
        return "level"
    if word == "in":
        return inlet
    if word == "by":
        return by_mark(step[1], ahead[step[2]])
    if word == "turns":
        return turned_mark(step[1], ahead[step[2]], step[3])
    one, other = step[-2:]
    if word == "sum":
        return sum_mark(ahead[one], ahead[other])
    if one == other:
        return ahead[one]
    if word == "if":
        return "none"
    return choice_mark(ahead[one], ahead[other], "down" if word == "most" else "up")


def marked(steps, inlet):
    """The marks of steps, by the inputs' mark."""
    found = []
    for step in steps:
        found.append(step_mark(step, inlet, found))
    return found


def marks(program):
    """The mark of each step of the program."""
    check_program(program)
    return marked(program[1], "straight")


def check_resting(picture, place):
    """Refuse what isn't a picture without jumps and a place of it."""
    check_picture(picture)
    if jumps_of(picture):
        raise Jumpy("a picture that jumps doesn't rest")
    check_place(picture, place)


def downward(picture, place):
    """The next place of the picture down from the place, None where it rests."""
    below, above = limits_within(picture, place)
    at = last_up_to(picture, place)
    if above is not None and above[1][0] < 0:
        return picture.places[at + 1]
    if below is not None and below[1][0] > 0:
        return picture.places[at] if picture.places[at] != place else picture.places[at - 1]
    return None


def descent(picture, place):
    """The place and all those that one comes to on the way down."""
    check_resting(picture, place)
    whole = tidied(picture)
    found = [anew(place)]
    onward = downward(whole, place)
    while onward is not None:
        found.append(onward)
        onward = downward(whole, onward)
    return found


def rests(picture, place):
    """Whether the picture rests at the place."""
    check_resting(picture, place)
    return downward(picture, place) is None

"""Pictures: what is told at each place of a stretch."""

from bendwright.errors import BadPicture, BadPlaces, BadStretch, Others
from bendwright.pieces import moved, piece_product, worth_behind
from bendwright.programs import check_program
from bendwright.running import anew, lesser_of, run
from bendwright.shares import are_numbers, gap_of, is_number, order_of, product_of, sum_of
from bendwright.sides import straight


def copied(value):
    """A list copied; what is none makes no picture, and is refused where a picture is asked for."""
    return list(value) if isinstance(value, list) else value


class Picture:
    """Places that rise, the worth at each, and for each but the last the worth just beyond and the slope."""

    def __init__(self, places, worths, pieces):
        self.places = copied(places)
        self.worths = copied(worths)
        self.pieces = copied(pieces)


def are_rising(places):
    """Whether each number is more than the one ahead."""
    return all([order_of(one, other) < 0 for one, other in zip(places, places[1:])])


def is_piece(piece):
    """Whether it is a tuple of two numbers."""
    return isinstance(piece, tuple) and len(piece) == 2 and is_number(piece[0]) and is_number(piece[1])


def is_picture(value):
    """Whether it is a picture."""
    if not isinstance(value, Picture) or not isinstance(value.places, list) or not isinstance(value.pieces, list):
        return False
    many = len(value.places)
    if many < 2 or len(value.pieces) != many - 1:
        return False
    if not are_numbers(value.places, many) or not are_numbers(value.worths, many):
        return False
    return are_rising(value.places) and all([is_piece(piece) for piece in value.pieces])


def check_picture(picture):
    """Refuse what is no picture."""
    if not is_picture(picture):
        raise BadPicture("a picture has two or more rising places, a worth for each and a piece between each two")


def check_stretch(low, high):
    """Refuse what isn't two numbers, the first less."""
    if not is_number(low) or not is_number(high) or order_of(low, high) >= 0:
        raise BadStretch("a stretch is two numbers, the first less")


def is_within(picture, place):
    """Whether a number is a place of the picture's stretch."""
    return order_of(picture.places[0], place) <= 0 and order_of(place, picture.places[-1]) <= 0


def check_place(picture, place):
    """Refuse what is no number of the picture's stretch."""
    if not is_number(place) or not is_within(picture, place):
        raise BadPlaces("a place is a number of the picture's stretch")


def piece_anew(piece):
    """The same piece, new throughout."""
    return (anew(piece[0]), anew(piece[1]))


def width_of(picture, at):
    """How wide the piece with that count is."""
    return gap_of(picture.places[at + 1], picture.places[at])


def is_needed(picture, at):
    """Whether a place that is no end is more than where the piece ahead of it goes on."""
    ongoing = moved(picture.pieces[at - 1], width_of(picture, at - 1))
    return picture.worths[at] != ongoing[0] or picture.pieces[at] != ongoing


def tidied(picture):
    """The same picture with the needed places only, new throughout, unchecked."""
    last = len(picture.pieces)
    kept = [at for at in range(last) if at == 0 or is_needed(picture, at)]
    places = [anew(picture.places[at]) for at in [*kept, last]]
    worths = [anew(picture.worths[at]) for at in [*kept, last]]
    return Picture(places, worths, [piece_anew(picture.pieces[at]) for at in kept])


def picture(program, low, high):
    """The tidy picture of the program's worth from low to high."""
    check_program(program)
    if program[0] != 1:
        raise Others("only a program of one input has a picture")
    check_stretch(low, high)
    steps = program[1]
    places = [low]
    worths = [run(steps, [low])[-1]]
    pieces = []
    while places[-1] != high:
        here = places[-1]
        piece, far = straight(steps, [(here, (1, 1))])
        there = high if far is None else lesser_of(sum_of(here, far), high)
        pieces.append(piece)
        places.append(there)
        worths.append(run(steps, [there])[-1])
    return tidied(Picture(places, worths, pieces))


def last_up_to(picture, place):
    """The count of the picture's last place that isn't beyond the place."""
    at = 0
    while at + 1 < len(picture.places) and order_of(picture.places[at + 1], place) <= 0:
        at += 1
    return at


def worth_within(picture, place):
    """What the picture tells at a place of its stretch, unchecked."""
    at = last_up_to(picture, place)
    far = gap_of(place, picture.places[at])
    if far[0] == 0:
        return anew(picture.worths[at])
    return worth_behind(picture.pieces[at], far)


def worth_at(picture, place):
    """What the picture tells at the place."""
    check_picture(picture)
    check_place(picture, place)
    return worth_within(picture, place)


def below_place(picture, at):
    """What the picture comes to from below at the place with that count, None at the first one."""
    if at == 0:
        return None
    return piece_anew(moved(picture.pieces[at - 1], width_of(picture, at - 1)))


def above_place(picture, at):
    """What the picture comes to from above at the place with that count, None at the last one."""
    if at == len(picture.pieces):
        return None
    return piece_anew(picture.pieces[at])


def limits_within(picture, place):
    """What the picture comes to at a place of its stretch from below and from above, unchecked."""
    at = last_up_to(picture, place)
    far = gap_of(place, picture.places[at])
    if far[0] == 0:
        return (below_place(picture, at), above_place(picture, at))
    within = moved(picture.pieces[at], far)
    return (piece_anew(within), piece_anew(within))


def limits(picture, place):
    """What the picture comes to at the place from below and from above, each with the slope there."""
    check_picture(picture)
    check_place(picture, place)
    return limits_within(picture, place)


def tidy(picture):
    """The same picture with the needed places only."""
    check_picture(picture)
    return tidied(picture)


def mirrored(picture):
    """The picture with each place turned to 0 less it, tidy."""
    check_picture(picture)
    places = [(-place[0], place[1]) for place in reversed(picture.places)]
    worths = list(reversed(picture.worths))
    pieces = []
    for at in reversed(range(1, len(picture.places))):
        worth, slope = below_place(picture, at)
        pieces.append((worth, (-slope[0], slope[1])))
    return tidied(Picture(places, worths, pieces))


def scaled(picture, number):
    """The picture so many times, tidy."""
    check_picture(picture)
    if not is_number(number):
        raise BadPicture("a picture is taken a number of times")
    worths = [product_of(number, worth) for worth in picture.worths]
    pieces = [piece_product(number, piece) for piece in picture.pieces]
    return tidied(Picture(picture.places, worths, pieces))

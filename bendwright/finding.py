"""What is found of pictures: bounds, places of a worth, areas, whether they rise, jumps, and the ways back."""

from bendwright.errors import BadNumber, NoBack
from bendwright.mixing import Answer
from bendwright.pictures import (
    Picture,
    above_place,
    below_place,
    check_picture,
    is_within,
    tidied,
    width_of,
    worth_within,
)
from bendwright.pieces import passing, worth_behind
from bendwright.running import anew, greater_of, lesser_of
from bendwright.shares import gap_of, is_number, order_of, product_of, share_of, sum_of


class Reached(Answer):
    """A bound of all worths, and a place that has it."""

    def __init__(self, value, place):
        self.value = value
        self.place = place


class Near(Answer):
    """A bound that no place has, and a place at which the picture comes to it, from above if up is True."""

    def __init__(self, value, place, up):
        self.value = value
        self.place = place
        self.up = up


class Rising(Answer):
    """Of any two places of a picture the greater one has more."""

    def shows(self, picture):
        """Whether it is so of the picture."""
        return falling(picture) is None


class Falls(Answer):
    """Two places of a picture, the lesser first, of which the greater one has no more."""

    def __init__(self, one, other):
        self.one = one
        self.other = other

    def shows(self, picture):
        """Whether they are such places of the picture."""
        if order_of(self.one, self.other) >= 0:
            return False
        if not is_within(picture, self.one) or not is_within(picture, self.other):
            return False
        return order_of(worth_within(picture, self.other), worth_within(picture, self.one)) <= 0


def span_within(picture, at, value):
    """The span of the places that have the value between the place with that count and the next, None if none has."""
    low, piece = picture.places[at], picture.pieces[at]
    if piece == (value, (0, 1)):
        return (anew(low), anew(picture.places[at + 1]), False, False)
    far = passing((gap_of(piece[0], value), piece[1]))
    if far is None or order_of(far, width_of(picture, at)) >= 0:
        return None
    place = sum_of(low, far)
    return (place, place, True, True)


def spans_apart(picture, value):
    """Spans that rise and hold just the places that have the value, none of them beyond a piece or a single place."""
    found = []
    for at, place in enumerate(picture.places):
        if picture.worths[at] == value:
            found.append((anew(place), anew(place), True, True))
        within = span_within(picture, at, value) if at < len(picture.pieces) else None
        if within is not None:
            found.append(within)
    return found


def spans_of(picture, value):
    """The spans of all places that have the value, unchecked."""
    found = []
    for span in spans_apart(picture, value):
        # Spans go on into each other where they meet at a place that is in.
        if found and found[-1][1] == span[0] and (found[-1][3] or span[2]):
            ahead = found.pop()
            found.append((ahead[0], span[1], ahead[2], span[3]))
        else:
            found.append(span)
    return found


def place_in(span):
    """A place of a span."""
    first, second, first_in, second_in = span
    return first if first_in else product_of(sum_of(first, second), (1, 2))


def approaches(picture):
    """What the picture comes to at both ends of each piece: a number, the place, and whether it is from above."""
    found = []
    for at, place in enumerate(picture.places[:-1]):
        found.append((above_place(picture, at)[0], anew(place), True))
        found.append((below_place(picture, at + 1)[0], anew(picture.places[at + 1]), False))
    return found


def bound(picture, choose):
    """The bound on one side of all worths, the farther one of two numbers being chosen."""
    nears = approaches(picture)
    value = picture.worths[0]
    for number in picture.worths + [near[0] for near in nears]:
        value = choose(value, number)
    spans_there = spans_of(picture, value)
    if spans_there:
        return Reached(anew(value), place_in(spans_there[0]))
    number, place, up = [near for near in nears if near[0] == value][0]
    return Near(number, place, up)


def least(picture):
    """The least worth and a place that has it, or a number as great as can be that all worths are above."""
    check_picture(picture)
    return bound(picture, lesser_of)


def greatest(picture):
    """The greatest worth and a place that has it, or a number as small as can be that all worths are below."""
    check_picture(picture)
    return bound(picture, greater_of)


def spans(picture, value):
    """The spans of all places that have the value, rising, as few as can be."""
    check_picture(picture)
    if not is_number(value):
        raise BadNumber("what places have is a number")
    return spans_of(picture, value)


def area(picture):
    """What lies between the picture and 0, what lies below 0 counted off."""
    check_picture(picture)
    total = (0, 1)
    for at, piece in enumerate(picture.pieces):
        width = width_of(picture, at)
        halfway = worth_behind(piece, product_of(width, (1, 2)))
        total = sum_of(total, product_of(width, halfway))
    return total


def falling_within(picture, at):
    """Two places from the one with that count to the next, of which the greater one has no more, None if none are."""
    low, high = picture.places[at], picture.places[at + 1]
    start, slope = picture.pieces[at]
    width = width_of(picture, at)
    if slope[0] <= 0:
        third = product_of(width, (1, 3))
        return (sum_of(low, third), gap_of(high, third))
    half = product_of(width, (1, 2))
    ahead = gap_of(picture.worths[at], start)
    if ahead[0] > 0:
        return (anew(low), sum_of(low, lesser_of(half, share_of(ahead, slope))))
    short = gap_of(below_place(picture, at + 1)[0], picture.worths[at + 1])
    if short[0] > 0:
        return (gap_of(high, lesser_of(half, share_of(short, slope))), anew(high))
    return None


def falling(picture):
    """Two places, the lesser first, of which the greater one has no more, None if there are none."""
    # Where each piece rises, from no less than its first place's worth to no more than its last one's, all does.
    for at in range(len(picture.pieces)):
        found = falling_within(picture, at)
        if found is not None:
            return found
    return None


def rising(picture):
    """Rising, or two places that show that it falls."""
    check_picture(picture)
    found = falling(picture)
    return Rising() if found is None else Falls(found[0], found[1])


def is_jump(picture, at):
    """Whether the worth of the place with that count isn't alike with each limit there."""
    ends = [below_place(picture, at), above_place(picture, at)]
    return any([end is not None and end[0] != picture.worths[at] for end in ends])


def jumps_of(picture):
    """The places at which the picture jumps, unchecked."""
    return [anew(place) for at, place in enumerate(picture.places) if is_jump(picture, at)]


def jumps(picture):
    """The places at which the picture jumps, rising."""
    check_picture(picture)
    return jumps_of(picture)


def backwards(picture):
    """The picture that tells for each worth its place, tidy."""
    check_picture(picture)
    if falling(picture) is not None or jumps_of(picture):
        raise NoBack("only a picture that rises and never jumps is gone backwards")
    pieces = [(place, share_of((1, 1), piece[1])) for place, piece in zip(picture.places, picture.pieces)]
    return tidied(Picture(picture.worths, picture.places, pieces))

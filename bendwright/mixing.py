"""Two pictures over one stretch put together and compared."""

from bendwright.errors import Others
from bendwright.pictures import Picture, check_picture, is_within, tidied, width_of, worth_within
from bendwright.pieces import greater_piece, lesser_piece, moved, passing, piece_gap, piece_sum, worth_behind
from bendwright.running import anew, greater_of, lesser_of
from bendwright.shares import gap_of, order_of, product_of, sum_of


class Answer:
    """One of several things of which one is told."""


class Alike(Answer):
    """Two pictures tell the same at all places."""

    def shows(self, one, other):
        """Whether both pictures do; over unlike stretches they don't."""
        return are_over_one_stretch(one, other) and parting(one, other) is None


class Differ(Answer):
    """Two pictures don't tell the same at a place."""

    def __init__(self, place):
        self.place = place

    def shows(self, one, other):
        """Whether both pictures tell something at the place, and not the same."""
        if not is_within(one, self.place) or not is_within(other, self.place):
            return False
        return worth_within(one, self.place) != worth_within(other, self.place)


def are_over_one_stretch(one, other):
    """Whether two pictures have the same ends."""
    return one.places[0] == other.places[0] and one.places[-1] == other.places[-1]


def check_pictures(one, other):
    """Refuse what isn't two pictures over one stretch."""
    check_picture(one)
    check_picture(other)
    if not are_over_one_stretch(one, other):
        raise Others("both pictures must be over one stretch")


def merged(one, other):
    """All numbers of two rising lists, rising, each once."""
    found = []
    left = right = 0
    while left < len(one) and right < len(other):
        which = order_of(one[left], other[right])
        found.append(one[left] if which <= 0 else other[right])
        if which <= 0:
            left += 1
        if which >= 0:
            right += 1
    return found + one[left:] + other[right:]


def parted(picture, places):
    """The same picture over these places, all of its own among them."""
    worths = []
    pieces = []
    at = -1
    for place in places:
        if place == picture.places[at + 1]:
            at += 1
            worths.append(picture.worths[at])
            pieces.extend(picture.pieces[at:at + 1])
        else:
            piece = moved(picture.pieces[at], gap_of(place, picture.places[at]))
            worths.append(piece[0])
            pieces.append(piece)
    return Picture(places, worths, pieces)


def parted_alike(one, other):
    """Both pictures over the places of both."""
    places = merged(one.places, other.places)
    return (parted(one, places), parted(other, places))


def crossings(one, other):
    """The places between those of two pictures, parted alike, at which one passes the other."""
    found = []
    for at, place in enumerate(one.places[:-1]):
        far = passing(piece_gap(one.pieces[at], other.pieces[at]))
        if far is not None and order_of(far, width_of(one, at)) < 0:
            found.append(sum_of(place, far))
    return found


def joined(one, other, join_worths, join_pieces):
    """Two pictures, parted alike, made one by what joins their worths and their pieces, tidy."""
    worths = [join_worths(left, right) for left, right in zip(one.worths, other.worths)]
    pieces = [join_pieces(left, right) for left, right in zip(one.pieces, other.pieces)]
    return tidied(Picture(one.places, worths, pieces))


def chosen(one, other, choose_worth, choose_piece):
    """The chosen one of two pictures at each place, tidy."""
    left, right = parted_alike(one, other)
    # Parted at the crossings, too, either piece is the chosen one all along.
    places = merged(left.places, crossings(left, right))
    return joined(parted(left, places), parted(right, places), choose_worth, choose_piece)


def together(one, other):
    """Both pictures put together."""
    check_pictures(one, other)
    left, right = parted_alike(one, other)
    return joined(left, right, sum_of, piece_sum)


def lesser(one, other):
    """The lesser one of both pictures at each place."""
    check_pictures(one, other)
    return chosen(one, other, lesser_of, lesser_piece)


def greater(one, other):
    """The greater one of both pictures at each place."""
    check_pictures(one, other)
    return chosen(one, other, greater_of, greater_piece)


def parting_within(place, width, gap):
    """A place less than the width beyond the place at which the gap, a piece that isn't 0 throughout, isn't 0."""
    far = product_of(width, (1, 2))
    if worth_behind(gap, far)[0] == 0:
        far = product_of(far, (1, 2))
    return sum_of(place, far)


def parting(one, other):
    """A place at which two pictures over one stretch don't tell the same, None if there is none."""
    left, right = parted_alike(one, other)
    for at, place in enumerate(left.places):
        if left.worths[at] != right.worths[at]:
            return anew(place)
        if left.pieces[at:at + 1] != right.pieces[at:at + 1]:
            return parting_within(place, width_of(left, at), piece_gap(left.pieces[at], right.pieces[at]))
    return None


def compared(one, other):
    """Alike, or where both pictures differ."""
    check_pictures(one, other)
    place = parting(one, other)
    return Alike() if place is None else Differ(place)

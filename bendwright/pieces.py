"""Pieces: tuples of the worth just beyond a place and the slope from there on.

A piece may be longer: what its first numbers leave undecided, 0, its last two
decide. So pieces from a place along ways that turn begin with the worth just
beyond the place, and end with the slope along the ways and how that changes.
"""

from bendwright.shares import gap_of, product_of, share_of, sum_of


def worth_behind(piece, far):
    """What a piece tells so far behind its place."""
    return sum_of(piece[0], product_of(far, piece[1]))


def moved(piece, far):
    """The same piece as it goes on from so far behind its place."""
    return (worth_behind(piece, far), piece[1])


def piece_sum(one, other):
    """Two pieces from one place put together."""
    return tuple([sum_of(left, right) for left, right in zip(one, other)])


def piece_gap(one, other):
    """The first piece less the second one, both from one place."""
    return tuple([gap_of(left, right) for left, right in zip(one, other)])


def piece_product(number, piece):
    """A piece so many times."""
    return tuple([product_of(number, part) for part in piece])


def is_above(piece):
    """Whether a piece is above 0 just beyond its place; one that begins at 0 is where its slope leads."""
    for part in piece:
        if part[0] != 0:
            return part[0] > 0
    return False


def lesser_piece(one, other):
    """The piece that is less just beyond the place of both."""
    return other if is_above(piece_gap(one, other)) else one


def greater_piece(one, other):
    """The piece that is greater just beyond the place of both."""
    return one if is_above(piece_gap(one, other)) else other


def passing(piece):
    """How far behind its place a piece passes through 0, None if it doesn't."""
    *first, worth, slope = piece
    if any([part[0] != 0 for part in first]) or worth[0] * slope[0] >= 0:
        return None
    return share_of(worth, (-slope[0], slope[1]))

"""Pieces: pairs of the worth just beyond a place and the slope from there on."""

from bendwright.shares import gap_of, product_of, share_of, sum_of


def worth_behind(piece, far):
    """What a piece tells so far behind its place."""
    return sum_of(piece[0], product_of(far, piece[1]))


def moved(piece, far):
    """The same piece as it goes on from so far behind its place."""
    return (worth_behind(piece, far), piece[1])


def piece_sum(one, other):
    """Two pieces from one place put together."""
    return (sum_of(one[0], other[0]), sum_of(one[1], other[1]))


def piece_gap(one, other):
    """The first piece less the second one, both from one place."""
    return (gap_of(one[0], other[0]), gap_of(one[1], other[1]))


def piece_product(number, piece):
    """A piece so many times."""
    return (product_of(number, piece[0]), product_of(number, piece[1]))


def is_above(piece):
    """Whether a piece is above 0 just beyond its place; one that begins at 0 is where its slope leads."""
    worth, slope = piece
    return worth[0] > 0 or (worth[0] == 0 and slope[0] > 0)


def lesser_piece(one, other):
    """The piece that is less just beyond the place of both."""
    return other if is_above(piece_gap(one, other)) else one


def greater_piece(one, other):
    """The piece that is greater just beyond the place of both."""
    return one if is_above(piece_gap(one, other)) else other


def passing(piece):
    """How far behind its place a piece passes through 0, None if it doesn't."""
    worth, slope = piece
    if worth[0] * slope[0] >= 0:
        return None
    return share_of(worth, (-slope[0], slope[1]))

"""Slopes of programs at places, or what shows that there are none."""

from bendwright.errors import BadPlaces, Others
from bendwright.mixing import Answer, parting_within
from bendwright.pictures import copied
from bendwright.pieces import piece_gap, piece_product, piece_sum
from bendwright.programs import check_program
from bendwright.running import check_places, lesser_of, run
from bendwright.shares import gap_of, is_number, product_of, sum_of
from bendwright.sides import starts_of, straight

# All ways lie on these or between two that follow each other.
AXES = (((1, 1), (0, 1)), ((0, 1), (1, 1)), ((-1, 1), (0, 1)), ((0, 1), (-1, 1)))


class Smooth(Answer):
    """One slope, below and above a place."""

    def __init__(self, slope):
        self.slope = slope


class Bent(Answer):
    """A slope below a place, and another one above it."""

    def __init__(self, below, above):
        self.below = below
        self.above = above


class Jumps(Answer):
    """The limits from below and above a place, and the worth between, not all alike."""

    def __init__(self, below, value, above):
        self.below = below
        self.value = value
        self.above = above


class Flat(Answer):
    """The two slopes by which a program of two inputs is flat."""

    def __init__(self, slopes):
        self.slopes = copied(slopes)

    def shows(self, program, places):
        """Whether the program is flat at the places by the slopes."""
        return len(self.slopes) == 2 and astray(program[1], places, self.slopes) is None


class Kinked(Answer):
    """Two ways that show that a program of two inputs isn't flat."""

    def __init__(self, one, other):
        self.one = copied(one)
        self.other = copied(other)

    def shows(self, program, places):
        """Whether along them and both together there is a jump, or slopes that don't come together."""
        if len(self.one) != 2 or len(self.other) != 2:
            return False
        steps = program[1]
        both = [sum_of(left, right) for left, right in zip(self.one, self.other)]
        first, second, third = [piece_along(steps, places, ways) for ways in (self.one, self.other, both)]
        value = run(steps, places)[-1]
        if any([piece[0] != value for piece in (first, second, third)]):
            return True
        return sum_of(first[1], second[1]) != third[1]


def piece_along(steps, places, ways):
    """What the worth comes to from the places along the ways, and its slope."""
    return straight(steps, starts_of(places, ways))[0]


def slope_at(program, place):
    """Smooth, bent or how it jumps: a program of one input at a place."""
    check_program(program)
    if program[0] != 1:
        raise Others("only a program of one input has a slope at a place")
    if not is_number(place):
        raise BadPlaces("a place is a number")
    steps = program[1]
    value = run(steps, [place])[-1]
    below, back = piece_along(steps, [place], [(-1, 1)])
    above, slope = piece_along(steps, [place], [(1, 1)])
    if below != value or above != value:
        return Jumps(below, value, above)
    ahead = (-back[0], back[1])
    return Smooth(slope) if ahead == slope else Bent(ahead, slope)


def flat_piece(value, slopes, starts):
    """The piece, by those of the inputs, of a program that is flat by the slopes."""
    first, second = [piece_product(slope, start) for slope, start in zip(slopes, starts)]
    return (value, *piece_sum(first, second)[1:])


def is_astray(steps, places, slopes, ways):
    """Whether the side along the ways isn't that of a program that is flat by the slopes."""
    starts = starts_of(places, ways)
    return straight(steps, starts)[0] != flat_piece(run(steps, places)[-1], slopes, starts)


def turned_ways(ways, turn, far):
    """The ways turned so far."""
    return [sum_of(way, product_of(far, by)) for way, by in zip(ways, turn)]


def astray_between(steps, places, slopes, one, other):
    """Ways between two along which the program isn't flat by the slopes, None if there are none."""
    turn = [gap_of(right, left) for left, right in zip(one, other)]
    value = run(steps, places)[-1]
    ways = list(one)
    rest = (1, 1)
    while rest[0] > 0:
        starts = [(*start, by) for start, by in zip(starts_of(places, ways), turn)]
        piece, far = straight(steps, starts)
        wide = rest if far is None else lesser_of(far, rest)
        gap = piece_gap(piece, flat_piece(value, slopes, starts))
        if any([part[0] != 0 for part in gap]):
            return turned_ways(ways, turn, parting_within((0, 1), wide, gap[1:]))
        ways = turned_ways(ways, turn, wide)
        rest = gap_of(rest, wide)
        if is_astray(steps, places, slopes, ways):
            return ways
    return None


def astray_axis(steps, places, slopes):
    """Ways of one input alone along which the program isn't flat by the slopes, None if there are none."""
    for axis in AXES:
        if is_astray(steps, places, slopes, axis):
            return list(axis)
    return None


def astray_apart(steps, places, slopes):
    """Ways of both inputs along which the program isn't flat by the slopes, None if there are none."""
    for one, other in zip(AXES, AXES[1:] + AXES[:1]):
        ways = astray_between(steps, places, slopes, one, other)
        if ways is not None:
            return ways
    return None


def astray(steps, places, slopes):
    """Ways along which the program isn't flat by the slopes, None if there are none."""
    ways = astray_axis(steps, places, slopes)
    return ways if ways is not None else astray_apart(steps, places, slopes)


def flat(program, places):
    """The slopes by which a program of two inputs is flat at the places, or two ways that show that it isn't."""
    check_program(program)
    if program[0] != 2:
        raise Others("only a program of two inputs is flat or kinked")
    check_places(program, places)
    steps = program[1]
    slopes = [piece_along(steps, places, axis)[1] for axis in AXES[:2]]
    ways = astray_axis(steps, places, slopes)
    if ways is not None:
        # One of both ways goes by the slope taken, so either the other doesn't go as much back, or there is a jump.
        return Kinked(ways, [(-way[0], way[1]) for way in ways])
    ways = astray_apart(steps, places, slopes)
    if ways is not None:
        # Along each part of these ways it goes by the slopes taken, so along both together it doesn't, or jumps.
        return Kinked([ways[0], (0, 1)], [(0, 1), ways[1]])
    return Flat(slopes)

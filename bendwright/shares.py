"""Numbers: tuples of two whole numbers, the second above 0, in lowest terms.

The wordings of the refusals show no number: Python refuses to write out
whole numbers of very many figures.
"""

from bendwright.errors import BadNumber


def is_whole(value):
    """Whether it is a whole number; True and False are none."""
    return isinstance(value, int) and not isinstance(value, bool)


def common(one, other):
    """The greatest whole number that goes into both, the second being above 0."""
    while other != 0:
        one, other = other, one % other
    return one


def is_number(value):
    """Whether it is a number."""
    if not isinstance(value, tuple) or len(value) != 2:
        return False
    above, below = value
    if not is_whole(above) or not is_whole(below) or below <= 0:
        return False
    return common(above, below) == 1


def are_numbers(value, many):
    """Whether it is a list of so many numbers."""
    return isinstance(value, list) and len(value) == many and all([is_number(part) for part in value])


def check_numbers(one, other):
    """Refuse two values that aren't both numbers."""
    if not is_number(one) or not is_number(other):
        raise BadNumber("both must be numbers in lowest terms, their second part above 0")


def reduced(above, below):
    """The number that above by below is, below not being 0."""
    if below < 0:
        above, below = -above, -below
    shared = common(above, below)
    return (above // shared, below // shared)


def sum_of(one, other):
    """Two numbers put together, unchecked."""
    # What goes into both lower parts is taken out first: long numbers are slow to reduce.
    shared = common(one[1], other[1])
    part = one[1] // shared
    above = one[0] * (other[1] // shared) + other[0] * part
    left = common(above, shared)
    return (above // left, part * (other[1] // left))


def gap_of(one, other):
    """The first number less the second one, unchecked."""
    return sum_of(one, (-other[0], other[1]))


def product_of(one, other):
    """One number times the other, unchecked."""
    # Each upper part shares nothing with its own lower one, so only with the other's.
    left = common(one[0], other[1])
    right = common(other[0], one[1])
    return ((one[0] // left) * (other[0] // right), (one[1] // right) * (other[1] // left))


def share_of(one, other):
    """The first number by the second one, which isn't 0, unchecked."""
    above, below = other
    return product_of(one, (below, above) if above > 0 else (-below, -above))


def order_of(one, other):
    """-1 if the first number is less than the second one, 0 if alike, else 1, unchecked."""
    left = one[0] * other[1]
    right = other[0] * one[1]
    if left < right:
        return -1
    if left == right:
        return 0
    return 1


def made(above, below):
    """The number that the first whole number by the second one is."""
    if not is_whole(above) or not is_whole(below):
        raise BadNumber("a number is made of two whole numbers")
    if below == 0:
        raise BadNumber("nothing is parted by 0")
    return reduced(above, below)


def plus(one, other):
    """Both numbers put together."""
    check_numbers(one, other)
    return sum_of(one, other)


def less(one, other):
    """The first number less the second one."""
    check_numbers(one, other)
    return gap_of(one, other)


def times(one, other):
    """One number times the other."""
    check_numbers(one, other)
    return product_of(one, other)


def over(one, other):
    """The first number by the second one."""
    check_numbers(one, other)
    if other[0] == 0:
        raise BadNumber("nothing is parted by 0")
    return share_of(one, other)


def order(one, other):
    """-1 if the first number is less, 0 if both are alike, else 1."""
    check_numbers(one, other)
    return order_of(one, other)

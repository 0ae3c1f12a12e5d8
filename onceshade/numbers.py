"""Whole numbers and fractions [4]."""

from onceshade.errors import NoFraction


def is_whole(thing):
    """Tell whether a thing is a whole number."""
    # To Python a truth is an int; here it is none.
    return isinstance(thing, int) and not isinstance(thing, bool)


def is_whole_tuple(thing, many):
    """Tell whether a thing is a tuple of so many whole numbers."""
    return isinstance(thing, tuple) and len(thing) == many and all([is_whole(part) for part in thing])


def sign(number):
    """Tell -1, 0 or 1."""
    if number > 0:
        return 1
    if number < 0:
        return -1
    return 0


def common_divisor(one, other):
    """Tell the greatest common divisor; that of 0 and 0 is 0."""
    while other != 0:
        one, other = other, one % other
    return abs(one)


def lowest_terms(numbers):
    """Divide numbers, the last not 0, by all they share, so that the last is from 1 on."""
    shared = 0
    for number in numbers:
        shared = common_divisor(shared, number)
    if numbers[-1] < 0:
        shared = -shared
    return tuple([number // shared for number in numbers])


def products_added(one, other):
    """Add up the products of two rows of as many numbers, place by place."""
    return sum([first * second for first, second in zip(one, other)])


def determinant(a, b, c):
    """Tell the determinant of three rows of three numbers."""
    return (
        a[0] * (b[1] * c[2] - b[2] * c[1])
        - a[1] * (b[0] * c[2] - b[2] * c[0])
        + a[2] * (b[0] * c[1] - b[1] * c[0])
    )


def determinant_of_four(a, b, c, d):
    """Tell the determinant of four rows of four numbers."""
    told = 0
    factor = 1
    for place in range(4):
        left = [row[:place] + row[place + 1:] for row in (b, c, d)]
        told += factor * a[place] * determinant(left[0], left[1], left[2])
        factor = -factor
    return told


def fraction(top, bottom):
    """Make the fraction of two whole numbers, the second not 0."""
    if bottom == 0:
        raise NoFraction("the second number of a fraction is not 0")
    return lowest_terms((top, bottom))


def plus(one, other):
    """Tell the sum of two fractions."""
    return fraction(one[0] * other[1] + other[0] * one[1], one[1] * other[1])


def less(one, other):
    """Tell the one fraction less the other."""
    return fraction(one[0] * other[1] - other[0] * one[1], one[1] * other[1])


def times(one, other):
    """Tell the product of two fractions."""
    return fraction(one[0] * other[0], one[1] * other[1])


def is_less(one, other):
    """Tell whether the one fraction is less than the other."""
    return one[0] * other[1] < other[0] * one[1]


def whole_part(one):
    """Tell the greatest whole number that is at most a fraction."""
    return one[0] // one[1]

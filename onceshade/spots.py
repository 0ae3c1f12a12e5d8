"""Spots, dots, and the side of two spots at a dot [5, 6]."""

from onceshade.errors import NoSpot
from onceshade.numbers import determinant, is_whole_tuple, lowest_terms, sign


def spot(x, y, z, w):
    """Make the spot that stands at x, y and z over w, w not 0."""
    if w == 0:
        raise NoSpot("the last number of a spot is not 0")
    return lowest_terms((x, y, z, w))


def is_spot(thing):
    """Tell whether a thing is a spot."""
    return is_whole_tuple(thing, 4) and thing[3] > 0 and lowest_terms(thing) == thing


def on_board(a):
    """Leave the depth of a spot out: where it stands on the board."""
    return (a[0], a[1], a[3])


def side_number(a, b, dot):
    """Tell the number whose sign is the side of spots a, b at a dot."""
    return determinant(on_board(a), on_board(b), (dot[0], dot[1], 1))


def side(a, b, dot):
    """Tell the side of spots a, b at a dot: -1, 0 or 1."""
    return sign(side_number(a, b, dot))


def growth(a, b):
    """Tell by how much the side number of spots a, b grows from a dot to the next one to the right."""
    return a[1] * b[3] - a[3] * b[1]


def shifted_side(a, b, dot):
    """Tell the side for the dot moved right by next to nothing, and down by next to nothing of that."""
    number = side_number(a, b, dot)
    if number == 0:
        number = growth(a, b)
    if number == 0:
        number = a[3] * b[0] - a[0] * b[3]
    return sign(number)

"""What is told of faces at dots, reckoned another way: by Python's fractions, from where the spots stand."""

import itertools
import math
from fractions import Fraction

# So little, beside the numbers of all faces asked about, that it stands for next to nothing.
BIT = Fraction(1, 10 ** 300)


def standing(numbers):
    x, y, z, w = numbers
    return (Fraction(x, w), Fraction(y, w), Fraction(z, w))


def across(one, other):
    return one[0] * other[1] - one[1] * other[0]


def parts_of_way(face, place):
    """Where p is a + s (b - a) + t (c - a): s and t; None where the face is edge on."""
    a, b, c = [standing(corner) for corner in face]
    there, back, way = [(q[0] - a[0], q[1] - a[1]) for q in (b, c, place)]
    whole = across(there, back)
    if whole == 0:
        return None
    return (across(way, back) / whole, across(there, way) / whole)


def shares_reckoned(face, place):
    way = parts_of_way(face, place)
    return None if way is None else (1 - way[0] - way[1], way[0], way[1])


def has_reckoned(face, dot):
    """Whether the dot, moved right by a bit and down by a bit of that, lies within the face."""
    found = shares_reckoned(face, (dot[0] + BIT, dot[1] + BIT * BIT))
    return found is not None and min(found) > 0


def depth_reckoned(face, dot):
    return sum(share * standing(corner)[2] for share, corner in zip(shares_reckoned(face, dot), face))


def seen_reckoned(faces, dot):
    found = [(depth_reckoned(face, dot), at) for at, face in enumerate(faces) if has_reckoned(face, dot)]
    return min(found)[1] if found else None


def way_between(one, other):
    return tuple(q - p for p, q in zip(one, other))


def straight_on(one, other):
    return tuple(one[at - 2] * other[at - 1] - one[at - 1] * other[at - 2] for at in range(3))


def along(one, other):
    return sum(p * q for p, q in zip(one, other))


def meets_reckoned(numbers, light, face):
    """Whether the ray meets the face: where it comes to the face's flat, and on which side of each of its sides."""
    start = standing(numbers)
    a, b, c = [standing(corner) for corner in face]
    straight = straight_on(way_between(a, b), way_between(a, c))
    rise = along(straight, light)
    if rise == 0:
        return False
    far = along(straight, way_between(start, a)) / rise
    if far <= 0:
        return False
    place = tuple(p + far * q for p, q in zip(start, light))
    return all(
        along(straight, straight_on(way_between(p, q), way_between(p, place))) >= 0
        for p, q in ((a, b), (b, c), (c, a))
    )


def four_rows_reckoned(rows):
    """The determinant of four rows, by all orders of their places."""
    told = 0
    for order in itertools.permutations(range(4)):
        swaps = sum(one > other for one, other in itertools.combinations(order, 2))
        told += (-1) ** swaps * math.prod(row[place] for row, place in zip(rows, order))
    return told


def as_pair(number):
    return (number.numerator, number.denominator)

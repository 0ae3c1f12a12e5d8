"""Coats: the colour of a face at its dots [20]."""

from onceshade.depths import weights
from onceshade.dots import has_dot
from onceshade.errors import NoFace
from onceshade.flats import turn
from onceshade.numbers import fraction, plus, times, whole_part


def shares(face, dot):
    """Tell the shares of a face's corners at a dot that it has: three fractions that come to 1."""
    if not has_dot(face, dot):
        raise NoFace("the face does not have the dot")
    whole = turn(face)
    return tuple([fraction(weight * corner[3], whole) for weight, corner in zip(weights(face, dot), face)])


def blended(numbers, portions):
    """Tell the greatest whole number that is at most the corners' numbers, each times its share, added."""
    total = (0, 1)
    for number, portion in zip(numbers, portions):
        total = plus(total, times((number, 1), portion))
    return whole_part(total)


def woven_colour(colours, portions):
    """Tell the colour woven of the colours of the three corners."""
    return tuple([blended([colour[at] for colour in colours], portions) for at in range(3)])


def nearest_place(number, many):
    """Take a number below 0 as 0, and one that is too great for so many as the last."""
    return min(max(number, 0), many - 1)


def picture_colour(rows, places, portions):
    """Tell the colour that stands in rows of colours at the place blended of the corners' places (u, v)."""
    row = rows[nearest_place(blended([v for u, v in places], portions), len(rows))]
    return row[nearest_place(blended([u for u, v in places], portions), len(row))]


def coat_at(coat, face, dot):
    """Tell the colour of a coat at a dot that the face has."""
    # Asked ahead of the kind of coat: a plain one has no colour beyond the face either.
    portions = shares(face, dot)
    if coat[0] == "plain":
        return coat[1]
    if coat[0] == "woven":
        return woven_colour(coat[1:], portions)
    return picture_colour(coat[1], coat[2:], portions)

"""Coats: the colour of a face at its dots [20]."""

from onceshade.depths import weights
from onceshade.dots import has_dot
from onceshade.errors import NoFace
from onceshade.flats import turn
from onceshade.numbers import fraction, is_whole_tuple, products_added

BRIGHTEST_NUMBER = 255
MOST_IN_PICTURE = 6


def is_colour(thing):
    """Tell whether a thing is a colour."""
    return is_whole_tuple(thing, 3) and all([0 <= number <= BRIGHTEST_NUMBER for number in thing])


def are_coat_rows(thing):
    """Tell whether a thing is the picture of a coat: one to six rows, all as long, of one to six colours."""
    if not isinstance(thing, list) or not all([isinstance(row, list) for row in thing]):
        return False
    lengths = [len(row) for row in thing]
    if not 1 <= len(thing) <= MOST_IN_PICTURE or not 1 <= min(lengths) <= MOST_IN_PICTURE:
        return False
    return min(lengths) == max(lengths) and all([is_colour(colour) for row in thing for colour in row])


def is_coat(thing):
    """Tell whether a thing is a coat."""
    if not isinstance(thing, tuple) or len(thing) == 0:
        return False
    word = thing[0]
    parts = thing[1:]
    if word == "plain":
        return len(parts) == 1 and is_colour(parts[0])
    if word == "woven":
        return len(parts) == 3 and all([is_colour(part) for part in parts])
    if word == "picture" and len(parts) == 4:
        return are_coat_rows(parts[0]) and all([is_whole_tuple(part, 2) for part in parts[1:]])
    return False


def share_tops(face, dot):
    """Tell what the shares of a face's corners at a dot that it has are when multiplied by its turn."""
    if not has_dot(face, dot):
        raise NoFace("the face does not have the dot")
    return [weight * corner[3] for weight, corner in zip(weights(face, dot), face)]


def shares(face, dot):
    """Tell the shares of a face's corners at a dot that it has: three fractions that come to 1."""
    whole = turn(face)
    return tuple([fraction(top, whole) for top in share_tops(face, dot)])


def blended(told, tops, whole):
    """Tell, place by place, the greatest whole number at most the corners' numbers, each times its share, added."""
    return [products_added([one[at] for one in told], tops) // whole for at in range(len(told[0]))]


def nearest_place(number, many):
    """Take a number below 0 as 0, and one that is too great for so many as the last."""
    return min(max(number, 0), many - 1)


def coat_at(coat, face, dot):
    """Tell the colour of a coat at a dot that the face has."""
    # Asked ahead of the kind of coat: a plain one has no colour beyond the face either.
    tops = share_tops(face, dot)
    whole = turn(face)
    if coat[0] == "plain":
        return coat[1]
    if coat[0] == "woven":
        return tuple(blended(coat[1:], tops, whole))
    rows = coat[1]
    u, v = blended(coat[2:], tops, whole)
    row = rows[nearest_place(v, len(rows))]
    return row[nearest_place(u, len(row))]

"""Coats: the colour of a face at its dots [20]."""

from onceshade.depths import weights
from onceshade.dots import has_dot
from onceshade.errors import NoFace
from onceshade.flats import turn
from onceshade.numbers import fraction, products_added


def share_tops(face, dot):
    """Tell what the shares of a face's corners at a dot that it has are when multiplied by its turn."""
    if not has_dot(face, dot):
        raise NoFace("the face does not have the dot")
    return [weight * corner[3] for weight, corner in zip(weights(face, dot), face)]


def shares(face, dot):
    """Tell the shares of a face's corners at a dot that it has: three fractions that come to 1."""
    whole = turn(face)
    return tuple([fraction(top, whole) for top in share_tops(face, dot)])


def blended(told, tops, whole):
    """Tell, place by place, the greatest whole number at most the corners' numbers, each times its share, added."""
    return [products_added([one[at] for one in told], tops) // whole for at in range(len(told[0]))]


def nearest_place(number, many):
    """Take a number below 0 as 0, and one that is too great for so many as the last."""
    return min(max(number, 0), many - 1)


def coat_at(coat, face, dot):
    """Tell the colour of a coat at a dot that the face has."""
    # Asked ahead of the kind of coat: a plain one has no colour beyond the face either.
    tops = share_tops(face, dot)
    whole = turn(face)
    if coat[0] == "plain":
        return coat[1]
    if coat[0] == "woven":
        return tuple(blended(coat[1:], tops, whole))
    rows = coat[1]
    u, v = blended(coat[2:], tops, whole)
    row = rows[nearest_place(v, len(rows))]
    return row[nearest_place(u, len(row))]

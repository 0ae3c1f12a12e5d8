"""Faces on the board, and cutting them by flats [13, 14]."""

from onceshade.errors import NoFlat
from onceshade.numbers import determinant, fraction, is_whole_tuple, lowest_terms, products_added
from onceshade.spots import on_board


def turn(face):
    """Tell the turn of a face: below 0 where it is turned away, 0 where it is edge on."""
    a, b, c = face
    return determinant(on_board(a), on_board(b), on_board(c))


def area(face):
    """Tell twice the area of a face, below 0 where it is turned away."""
    a, b, c = face
    return fraction(turn(face), a[3] * b[3] * c[3])


def is_flat(thing):
    """Tell whether a thing is a flat."""
    return is_whole_tuple(thing, 4) and thing[:3] != (0, 0, 0)


def check_flat(thing):
    """Refuse what is no flat with NoFlat."""
    if not is_flat(thing):
        raise NoFlat("a flat is a tuple of four whole numbers, not all of the first three 0")


def worth(flat, spot):
    """Tell the worth of a spot: above 0 on one side of the flat, 0 in it."""
    check_flat(flat)
    return products_added(flat, spot)


def crossing(one, one_worth, other, other_worth):
    """Tell the spot between two spots, one worth above 0 and one below, where the worth is 0."""
    return lowest_terms(tuple([other[at] * one_worth - one[at] * other_worth for at in range(4)]))


def kept_spots(face, flat):
    """Tell the spots put down on the way round a face, where the worth is not below 0."""
    worths = [worth(flat, corner) for corner in face]
    kept = []
    for here, there in ((0, 1), (1, 2), (2, 0)):
        if worths[here] >= 0:
            kept.append(face[here])
        if worths[here] * worths[there] < 0:
            kept.append(crossing(face[here], worths[here], face[there], worths[there]))
    return kept


def cut(face, flat):
    """Tell the pieces of a face where the worth is not below 0: none, one or two."""
    kept = kept_spots(face, flat)
    return [(kept[0], kept[at], kept[at + 1]) for at in range(1, len(kept) - 1)]


def cut_all(faces, flat):
    """Tell all pieces of faces, in order."""
    # Checked here too, as there may be no face to cut.
    check_flat(flat)
    pieces = []
    for face in faces:
        pieces.extend(cut(face, flat))
    return pieces

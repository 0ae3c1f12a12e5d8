"""Moves: four rows of four whole numbers that make spots of spots [10, 11, 12]."""

from onceshade.errors import Behind, NoMove
from onceshade.numbers import is_whole, is_whole_tuple, lowest_terms, products_added

STILL = ((1, 0, 0, 0), (0, 1, 0, 0), (0, 0, 1, 0), (0, 0, 0, 1))
# For each axis the two other coordinates, in the order 0, 1, 2, 0.
OTHERS = ((1, 2), (2, 0), (0, 1))


def still_but(changes):
    """Make the still move's rows but for the numbers told by (row, place)."""
    return tuple([
        tuple([changes.get((row, place), STILL[row][place]) for place in range(4)])
        for row in range(4)
    ])


def is_move(thing):
    """Tell whether a thing is a move."""
    return isinstance(thing, tuple) and len(thing) == 4 and all([is_whole_tuple(row, 4) for row in thing])


def is_coordinate(thing):
    """Tell whether a thing is the number of a coordinate: 0, 1 or 2."""
    return is_whole(thing) and 0 <= thing <= 2


def still():
    """Make the move that leaves all."""
    return STILL


def shift(a, b, c):
    """Make the move that adds a, b and c."""
    return still_but({(0, 3): a, (1, 3): b, (2, 3): c})


def quarter(axis):
    """Make the quarter turn about an axis."""
    if not is_coordinate(axis):
        raise NoMove("an axis is 0, 1 or 2")
    u, v = OTHERS[axis]
    return still_but({(u, u): 0, (u, v): -1, (v, u): 1, (v, v): 0})


def slant(i, j, m):
    """Make the move that adds m times the coordinate j to the coordinate i."""
    if not is_coordinate(i) or not is_coordinate(j) or i == j:
        raise NoMove("the coordinates of a slant are two unlike ones of 0, 1 and 2")
    return still_but({(i, j): m})


def stretch(a, b, c):
    """Make the move that multiplies by a, b and c."""
    for number in (a, b, c):
        if not is_whole(number) or number == 0:
            raise NoMove("the numbers of a stretch are whole numbers other than 0")
    return still_but({(0, 0): a, (1, 1): b, (2, 2): c})


def look_from(d):
    """Make the look from a point."""
    if not is_whole(d) or d < 1:
        raise NoMove("the number of a look is a whole number from 1 on")
    return ((d, 0, 0, 0), (0, d, 0, 0), (0, 0, 1, -1), (0, 0, 1, 0))


def after(one, other):
    """Make the move that does the one move after the other."""
    places = [tuple([row[place] for row in other]) for place in range(4)]
    return tuple([tuple([products_added(row, place) for place in places]) for row in one])


def moved(move, spot):
    """Tell the spot that a move makes of a spot."""
    sums = tuple([products_added(row, spot) for row in move])
    if sums[3] <= 0:
        raise Behind("the move takes the spot behind")
    return lowest_terms(sums)


def faces_seen(body, move):
    """Tell the faces of a body seen by a move, in order."""
    corners, faces = body
    # Only the corners of faces, each once: one that no face has may be behind, and great numbers take long.
    used = sorted({at for face in faces for at in face})
    spots = {at: moved(move, corners[at] + (1,)) for at in used}
    return [tuple([spots[at] for at in face]) for face in faces]

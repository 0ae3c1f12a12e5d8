"""The looker: whether papers hold [33]."""

from onceshade.boards import LONGEST
from onceshade.bodies import MOST, fellow, is_body, sides_of
from onceshade.depths import seen_at
from onceshade.dots import has_dot
from onceshade.flats import is_flat, turn, worth
from onceshade.numbers import determinant_of_four, is_whole, is_whole_tuple, sign
from onceshade.shadows import place_at
from onceshade.spans import spans_of
from onceshade.spots import is_spot


def are_faces(thing):
    """Tell whether a thing is a list of faces on the board."""
    if not isinstance(thing, list) or not all([isinstance(face, tuple) and len(face) == 3 for face in thing]):
        return False
    return all([is_spot(corner) for face in thing for corner in face])


def dot_holds(faces, dot, number):
    """Tell whether a paper of the number seen at a dot holds."""
    if not are_faces(faces) or len(faces) > MOST or not is_whole_tuple(dot, 2):
        return False
    # A truth is no number, though to Python it is like one.
    if number is not None and not is_whole(number):
        return False
    return seen_at(faces, dot) == number


def is_side_place(thing, many):
    """Tell whether a thing is (face, place) of a side, of so many faces."""
    return is_whole_tuple(thing, 2) and 0 <= thing[0] < many and 0 <= thing[1] <= 2


def are_fellows(thing, faces):
    """Tell whether a thing is a pair of places of a side and its fellow."""
    if not isinstance(thing, tuple) or len(thing) != 2:
        return False
    if not all([is_side_place(place, len(faces)) for place in thing]):
        return False
    one, other = [sides_of(faces[face])[place] for face, place in thing]
    return one == fellow(other)


def fellows_hold(body, pairs):
    """Tell whether a paper of the sides of a closed body, in pairs, holds."""
    if not is_body(body) or not isinstance(pairs, list):
        return False
    faces = body[1]
    if not all([are_fellows(pair, faces) for pair in pairs]):
        return False
    # Where each side has a fellow of its own, the body is closed: this need not be asked.
    places = sorted([place for pair in pairs for place in pair])
    return places == [(face, place) for face in range(len(faces)) for place in range(3)]


def is_piece(piece, face, flat):
    """Tell whether a piece is in a face's flat, nowhere of a worth below 0, and turned as the face or edge on."""
    a, b, c = face
    if any([determinant_of_four(a, b, c, corner) != 0 or worth(flat, corner) < 0 for corner in piece]):
        return False
    return sign(turn(piece)) in (0, sign(turn(face)))


def dot_counts(pieces):
    """Tell how many pieces have each dot of the board; a dot that none has is left out."""
    counts = {}
    for piece in pieces:
        for y, first, last in spans_of(piece, (LONGEST, LONGEST)):
            for x in range(first, last + 1):
                counts[(x, y)] = counts.get((x, y), 0) + 1
    return counts


def counts_allowed(face, flat, dot):
    """Tell how many pieces of a face may have a dot."""
    if not has_dot(face, dot):
        return (0,)
    here = worth(flat, place_at(face, dot))
    if here == 0:
        return (0, 1)
    return (1,) if here > 0 else (0,)


def cut_holds(face, flat, pieces):
    """Tell whether a paper of the pieces of a face cut by a flat holds."""
    if not are_faces([face]) or not is_flat(flat) or not are_faces(pieces):
        return False
    if not all([is_piece(piece, face, flat) for piece in pieces]):
        return False
    counts = dot_counts(pieces)
    dots = [(x, y) for x in range(LONGEST) for y in range(LONGEST)]
    return all([counts.get(dot, 0) in counts_allowed(face, flat, dot) for dot in dots])


def holds(paper):
    """Tell whether any thing is a paper that is so."""
    if not isinstance(paper, tuple) or len(paper) == 0:
        return False
    word = paper[0]
    rest = paper[1:]
    if word == "dot" and len(rest) == 3:
        return dot_holds(rest[0], rest[1], rest[2])
    if word == "fellows" and len(rest) == 2:
        return fellows_hold(rest[0], rest[1])
    if word == "cut" and len(rest) == 3:
        return cut_holds(rest[0], rest[1], rest[2])
    return False

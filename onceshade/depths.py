"""How deep faces are, and which of them is seen at a dot [17, 18, 19]."""

from onceshade.boards import check_board
from onceshade.dots import has_dot
from onceshade.errors import NoFace
from onceshade.flats import turn
from onceshade.numbers import fraction, is_less, products_added, sign
from onceshade.spots import side_number


def weights(face, dot):
    """Tell for each corner of a face the side number, at a dot, of the two other corners."""
    a, b, c = face
    return (side_number(b, c, dot), side_number(c, a, dot), side_number(a, b, dot))


def unreduced_depth(face, dot):
    """Tell the depth of a face at any dot as (top, bottom), bottom from 1 on, common divisors left in."""
    # Enough to compare depths by; of great numbers the common divisors would take long to find.
    whole = turn(face)
    if whole == 0:
        raise NoFace("a face edge on has no depth")
    top = products_added(weights(face, dot), [corner[2] for corner in face])
    return (top * sign(whole), abs(whole))


def depth_at(face, dot):
    """Tell the depth of a face, that is of its flat, at any dot."""
    top, bottom = unreduced_depth(face, dot)
    return fraction(top, bottom)


def seen_at(faces, dot):
    """Tell the number of the face that is seen at a dot, None where no face has it."""
    seen = None
    least = None
    for number, face in enumerate(faces):
        if has_dot(face, dot):
            depth = unreduced_depth(face, dot)
            # Only what is nearer stands ahead of a face of a lesser number.
            if seen is None or is_less(depth, least):
                seen = number
                least = depth
    return seen


def painted(faces, board):
    """Tell the picture of numbers of faces on a board."""
    check_board(board)
    wide, high = board
    return [[seen_at(faces, (x, y)) for x in range(wide)] for y in range(high)]


def ins_and_outs(faces, dot):
    """Tell how many faces that have a dot are not turned away, and how many are."""
    turns = [turn(face) for face in faces if has_dot(face, dot)]
    outs = len([one for one in turns if one < 0])
    return (len(turns) - outs, outs)

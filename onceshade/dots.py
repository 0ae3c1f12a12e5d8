"""The dots that a face has [15]."""

from onceshade.boards import check_board
from onceshade.spots import shifted_side


def has_dot(face, dot):
    """Tell whether a face has a dot: never where it is edge on."""
    a, b, c = face
    first = shifted_side(a, b, dot)
    return first != 0 and shifted_side(b, c, dot) == first and shifted_side(c, a, dot) == first


def dots_of(face, board):
    """Tell all dots of a board that a face has, sorted."""
    check_board(board)
    wide, high = board
    return [(x, y) for x in range(wide) for y in range(high) if has_dot(face, (x, y))]

"""Boards cut into squares, and painting by them [24, 25]."""

from onceshade.boards import check_board, check_squares_side
from onceshade.depths import unreduced_depth
from onceshade.dots import has_dot
from onceshade.flats import turn
from onceshade.numbers import is_less


def squares_of(board, side):
    """Tell the squares (left, top, wide, high) of a board, sorted."""
    check_board(board)
    check_squares_side(side)
    wide, high = board
    return [
        (left, top, min(side, wide - left), min(side, high - top))
        for left in range(0, wide, side)
        for top in range(0, high, side)
    ]


def part_of(picture, square):
    """Tell the part of a picture in a square, in new rows."""
    left, top, wide, high = square
    return [row[left:left + wide] for row in picture[top:top + high]]


def dots_in(square):
    """Tell the dots of a square."""
    left, top, wide, high = square
    return [(x, y) for x in range(left, left + wide) for y in range(top, top + high)]


def corner_dots(square):
    """Tell the four dots in the corners of a square."""
    left, top, wide, high = square
    return [(x, y) for x in (left, left + wide - 1) for y in (top, top + high - 1)]


def is_passed_over(face, square, depths):
    """Tell whether nothing of a face can be seen in a square that has these depths, by dot, already."""
    wide, high = square[2:]
    if len(depths) < wide * high:
        return False
    # The depth of a flat is least in a corner, so no other dot of the square need be asked about.
    corners = [unreduced_depth(face, dot) for dot in corner_dots(square)]
    return not any([is_less(depth, there) for depth in corners for there in depths.values()])


def paint_face(rows, depths, square, number, face):
    """Paint a face on its dots in a square, where it is nearer than what is there."""
    for dot in dots_in(square):
        if has_dot(face, dot):
            depth = unreduced_depth(face, dot)
            if dot not in depths or is_less(depth, depths[dot]):
                depths[dot] = depth
                rows[dot[1]][dot[0]] = number


def paint_square(rows, faces, square):
    """Paint faces on the rows of a picture, in one square; told is how many were passed over."""
    depths = {}
    passed = 0
    for number, face in enumerate(faces):
        if turn(face) == 0:
            continue
        if is_passed_over(face, square, depths):
            passed += 1
        else:
            paint_face(rows, depths, square, number, face)
    return passed


def painted_by_squares(faces, board, side):
    """Tell the picture of numbers painted square by square, and how many times a face was passed over."""
    squares = squares_of(board, side)
    wide, high = board
    rows = [[None] * wide for y in range(high)]
    passed = 0
    for square in squares:
        passed += paint_square(rows, faces, square)
    return (rows, passed)

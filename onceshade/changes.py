"""What changed from older faces to newer ones, and painting just that anew [26, 27]."""

from onceshade.dots import has_dot
from onceshade.squares import dots_in, paint_square, squares_of


def changed_numbers(older, newer):
    """Tell the numbers that just one of two lists of faces has, or whose faces are unlike, sorted."""
    both = min(len(older), len(newer))
    unlike = [number for number in range(both) if older[number] != newer[number]]
    return unlike + list(range(both, max(len(older), len(newer))))


def changed_faces(older, newer):
    """Tell the faces of changed numbers, of the older list and of the newer one."""
    numbers = changed_numbers(older, newer)
    return [faces[number] for faces in (older, newer) for number in numbers if number < len(faces)]


def damaged(older, newer, board, side):
    """Tell the squares of a board that have a dot of a changed face, sorted."""
    squares = squares_of(board, side)
    faces = changed_faces(older, newer)
    return [square for square in squares if any([has_dot(face, dot) for dot in dots_in(square) for face in faces])]


def wipe_square(rows, square):
    """Take all numbers out of a square of a picture's rows."""
    for x, y in dots_in(square):
        rows[y][x] = None


def mended(picture, older, newer, board, side):
    """Tell a picture of numbers, painted anew by the newer faces in the damaged squares."""
    squares = damaged(older, newer, board, side)
    rows = [list(row) for row in picture]
    for square in squares:
        wipe_square(rows, square)
        paint_square(rows, newer, square)
    return rows

"""The spans of a face: its first and last dot in each row of a board [16]."""

from onceshade.boards import check_board
from onceshade.flats import turn
from onceshade.numbers import sign
from onceshade.spots import growth, shifted_side, side_number


def narrowed(span, a, b, way):
    """Narrow a span to its dots where the shifted side of a and b is the way told; last is below first if none is."""
    y, first, last = span
    step = way * growth(a, b)
    start = way * side_number(a, b, (0, y))
    # At x the side number is start + x * step. Where it is 0 the step decides, so 0 will do where the step is above 0.
    if step > 0:
        return (y, max(first, -(start // step)), last)
    if step < 0:
        return (y, first, min(last, (start - 1) // -step))
    if shifted_side(a, b, (0, y)) == way:
        return span
    return (y, first, first - 1)


def spans_of(face, board):
    """Tell the spans (y, first, last) of a face on a board, by rising y."""
    check_board(board)
    a, b, c = face
    way = sign(turn(face))
    # Asked here, as of spots all at one place each shifted side is 0, too.
    if way == 0:
        return []
    wide, high = board
    spans = []
    for y in range(high):
        span = (y, 0, wide - 1)
        for one, other in ((a, b), (b, c), (c, a)):
            span = narrowed(span, one, other, way)
        if span[1] <= span[2]:
            spans.append(span)
    return spans

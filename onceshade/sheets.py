"""Sheets of glass over a colour, and pictures of colours [22, 23]."""

from onceshade.boards import check_board
from onceshade.coats import coat_at
from onceshade.depths import unreduced_depth
from onceshade.dots import has_dot
from onceshade.numbers import fraction, is_less, is_whole, whole_part

# A sheet of this cover lets nothing through.
FULL_COVER = 8


def is_cover(thing):
    """Tell whether a thing is a cover: so many eighths."""
    return is_whole(thing) and 0 <= thing <= FULL_COVER


def as_fractions(behind):
    """Tell what is behind as three fractions: it may be a colour."""
    if isinstance(behind[0], tuple):
        return behind
    return tuple([(number, 1) for number in behind])


def covered(number, cover, behind):
    """Tell the fraction that comes of a sheet's number over the fraction behind it."""
    top, bottom = behind
    return fraction(cover * number * bottom + (FULL_COVER - cover) * top, FULL_COVER * bottom)


def through(sheets, behind):
    """Tell the three fractions that come of sheets, the nearest first, over what is behind."""
    told = as_fractions(behind)
    for colour, cover in reversed(sheets):
        told = tuple([covered(number, cover, farther) for number, farther in zip(colour, told)])
    return told


def colour_through(sheets, behind):
    """Tell the colour that comes of sheets, the nearest first, over what is behind."""
    return tuple([whole_part(one) for one in through(sheets, behind)])


def sheets_at(things, dot):
    """Tell the sheets of things at a dot, by depth, alike ones by number."""
    depths = []
    sheets = []
    for face, coat, cover in things:
        if has_dot(face, dot):
            depth = unreduced_depth(face, dot)
            # Behind all that are not deeper: those that are as deep have lesser numbers.
            place = len([other for other in depths if not is_less(depth, other)])
            depths.insert(place, depth)
            sheets.insert(place, (coat_at(coat, face, dot), cover))
    return sheets


def coloured(things, board, behind):
    """Tell the picture of colours of things on a board, over a colour behind."""
    check_board(board)
    wide, high = board
    return [[colour_through(sheets_at(things, (x, y)), behind) for x in range(wide)] for y in range(high)]

"""What a board and the side of its squares are [15, 24]."""

from onceshade.errors import NoBoard
from onceshade.numbers import is_whole, is_whole_tuple

LONGEST = 16


def is_length(number):
    """Tell whether a whole number may be how wide or high a board, or how long a side of squares is."""
    return 1 <= number <= LONGEST


def check_board(thing):
    """Refuse what is no board with NoBoard."""
    if not is_whole_tuple(thing, 2) or not all([is_length(number) for number in thing]):
        raise NoBoard("a board is a tuple of two whole numbers from 1 to 16")


def check_squares_side(thing):
    """Refuse what is no side of squares with NoBoard."""
    if not is_whole(thing) or not is_length(thing):
        raise NoBoard("a side of squares is a whole number from 1 to 16")

import unittest

from onceshade.boards import check_board, check_squares_side
from onceshade.errors import NoBoard
from helpers import ANY_THINGS, refused

FIT_LENGTHS = list(range(1, 17))


class Boards(unittest.TestCase):
    def test_all_lengths_that_fit_are_let_by(self):
        for wide in FIT_LENGTHS:
            for high in FIT_LENGTHS:
                self.assertIsNone(check_board((wide, high)))

    def test_lengths_beyond_are_refused(self):
        for length in [0, -1, -16, 17, 18, 100, 999999999999, -999999999999]:
            for board in [(length, 4), (4, length), (length, length)]:
                refused(self, NoBoard, check_board, board)

    def test_parts_that_are_no_whole_numbers_are_refused(self):
        for thing in [True, False, None, "4", "", [4], (4,), [], ()]:
            for board in [(thing, 4), (4, thing), (thing, thing)]:
                refused(self, NoBoard, check_board, board)

    def test_other_shapes_are_refused(self):
        for thing in [[4, 4], (4,), (4, 4, 4), (), [], 4, "44", ((4, 4),), ([4, 4],), None]:
            refused(self, NoBoard, check_board, thing)

    def test_any_thing_is_refused(self):
        for thing in ANY_THINGS:
            refused(self, NoBoard, check_board, thing)


class SquaresSides(unittest.TestCase):
    def test_those_that_fit_are_let_by(self):
        for length in FIT_LENGTHS:
            self.assertIsNone(check_squares_side(length))

    def test_those_beyond_are_refused(self):
        for length in [0, -1, -16, 17, 18, 999999999999, -999999999999]:
            refused(self, NoBoard, check_squares_side, length)

    def test_any_other_thing_is_refused(self):
        for thing in ANY_THINGS:
            if type(thing) is not int or thing not in FIT_LENGTHS:
                refused(self, NoBoard, check_squares_side, thing)
        for thing in [True, False, None, "4", "", [4], (4,), (4, 4)]:
            refused(self, NoBoard, check_squares_side, thing)


if __name__ == "__main__":
    unittest.main()

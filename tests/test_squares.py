import itertools
import random
import unittest

from onceshade.depths import painted
from onceshade.errors import NoBoard
from onceshade.squares import painted_by_squares, part_of, squares_of
from helpers import ANY_THINGS, asks_again, is_tuple_of_whole, refused
from reckon import depth_reckoned, has_reckoned
from samples import BOARD_FACES, BOARDS, EDGE_ON, HERE, NO_BOARDS, NO_SIDES, SIDES, SLANTED, WHOLE_FACES


def level(depth):
    """A face over the whole of any board, at one depth."""
    return ((-40, -40, depth, 1), (90, -40, depth, 1), (-40, 90, depth, 1))


def over(left, top, wide, high, depth):
    """Two faces that have just the dots of an oblong."""
    a, b = (left, top, depth, 1), (left + wide, top, depth, 1)
    c, d = (left + wide, top + high, depth, 1), (left, top + high, depth, 1)
    return [(a, b, c), (a, c, d)]


def passed_reckoned(faces, board, side):
    """How many times a face is passed over, told square by square as the document has it."""
    many = 0
    for left, top in itertools.product(range(0, board[0], side), range(0, board[1], side)):
        right, bottom = min(left + side, board[0]) - 1, min(top + side, board[1]) - 1
        dots = list(itertools.product(range(left, right + 1), range(top, bottom + 1)))
        held = {}
        for face in faces:
            if face in EDGE_ON:
                continue
            corners = [depth_reckoned(face, dot) for dot in itertools.product((left, right), (top, bottom))]
            if all(dot in held for dot in dots) and max(held.values()) <= min(corners):
                many += 1
                continue
            for dot in dots:
                if has_reckoned(face, dot):
                    held[dot] = min(held.get(dot, depth_reckoned(face, dot)), depth_reckoned(face, dot))
    return many


class Squares(unittest.TestCase):
    def test_examples(self):
        self.assertEqual(squares_of((4, 4), 2), [(0, 0, 2, 2), (0, 2, 2, 2), (2, 0, 2, 2), (2, 2, 2, 2)])
        self.assertEqual(squares_of((5, 3), 2), [
            (0, 0, 2, 2), (0, 2, 2, 1), (2, 0, 2, 2), (2, 2, 2, 1), (4, 0, 1, 2), (4, 2, 1, 1),
        ])
        self.assertEqual(squares_of((3, 2), 16), [(0, 0, 3, 2)])
        self.assertEqual(squares_of((16, 16), 16), [(0, 0, 16, 16)])
        self.assertEqual(squares_of((1, 1), 1), [(0, 0, 1, 1)])
        self.assertEqual(squares_of((2, 2), 1), [(0, 0, 1, 1), (0, 1, 1, 1), (1, 0, 1, 1), (1, 1, 1, 1)])
        self.assertEqual(squares_of((16, 2), 15), [(0, 0, 15, 2), (15, 0, 1, 2)])
        self.assertEqual(squares_of((2, 16), 15), [(0, 0, 2, 15), (0, 15, 2, 1)])

    def test_all_sides_on_all_boards(self):
        for wide, high, side in itertools.product(SIDES, repeat=3):
            told = squares_of((wide, high), side)
            self.assertIs(type(told), list)
            self.assertEqual(told, sorted(told))
            dots = []
            for square in told:
                self.assertTrue(is_tuple_of_whole(square, 4))
                left, top, across, down = square
                self.assertEqual((left % side, top % side), (0, 0))
                self.assertIn(across, (side, wide - left))
                self.assertIn(down, (side, high - top))
                self.assertTrue(1 <= across <= side and 1 <= down <= side)
                dots += itertools.product(range(left, left + across), range(top, top + down))
            self.assertEqual(sorted(dots), list(itertools.product(range(wide), range(high))))

    def test_what_is_no_board_or_no_side_is_refused(self):
        for thing in NO_BOARDS + ANY_THINGS:
            refused(self, NoBoard, squares_of, thing, 4)
            refused(self, NoBoard, squares_of, thing, thing)
        for thing in NO_SIDES:
            refused(self, NoBoard, squares_of, (4, 4), thing)

    def test_what_is_told_is_the_askers_own(self):
        for board, side in [((1, 1), 1), ((16, 16), 3), ((5, 4), 16)]:
            asks_again(self, squares_of, board, side)


class Parts(unittest.TestCase):
    PICTURE = [[10 * y + x for x in range(5)] for y in range(4)]

    def test_examples(self):
        self.assertEqual(part_of(self.PICTURE, (0, 0, 2, 2)), [[0, 1], [10, 11]])
        self.assertEqual(part_of(self.PICTURE, (2, 0, 3, 1)), [[2, 3, 4]])
        self.assertEqual(part_of(self.PICTURE, (0, 1, 1, 3)), [[10], [20], [30]])

    def test_at_each_rim(self):
        self.assertEqual(part_of(self.PICTURE, (4, 0, 1, 1)), [[4]])
        self.assertEqual(part_of(self.PICTURE, (0, 3, 1, 1)), [[30]])
        self.assertEqual(part_of(self.PICTURE, (4, 3, 1, 1)), [[34]])
        self.assertEqual(part_of(self.PICTURE, (3, 2, 2, 2)), [[23, 24], [33, 34]])
        self.assertEqual(part_of(self.PICTURE, (0, 0, 5, 4)), self.PICTURE)

    def test_what_stands_in_it_is_left_as_it_is(self):
        picture = [[None, 3, (1, 2, 3)], [None, None, (0, 0, 0)]]
        self.assertEqual(part_of(picture, (1, 0, 2, 2)), [[3, (1, 2, 3)], [None, (0, 0, 0)]])

    def test_all_squares_put_together_are_the_picture(self):
        for wide, high in BOARDS:
            picture = [[100 * y + x for x in range(wide)] for y in range(high)]
            for side in SIDES:
                again = [[None] * wide for y in range(high)]
                for left, top, across, down in squares_of((wide, high), side):
                    part = part_of(picture, (left, top, across, down))
                    self.assertEqual((len(part), {len(row) for row in part}), (down, {across}))
                    for y, x in itertools.product(range(down), range(across)):
                        again[top + y][left + x] = part[y][x]
                self.assertEqual(again, picture)

    def test_what_is_told_is_the_askers_own(self):
        for square in [(0, 0, 5, 4), (0, 0, 5, 1), (4, 3, 1, 1), (0, 1, 5, 3), (1, 1, 2, 2)]:
            asks_again(self, part_of, self.PICTURE, square)
        row = [1, 2, 3]
        self.assertEqual(asks_again(self, part_of, [row, row, row], (0, 0, 3, 3)), [[1, 2, 3]] * 3)


class PaintedBySquares(unittest.TestCase):
    def test_no_faces(self):
        self.assertEqual(painted_by_squares([], (3, 2), 2), ([[None] * 3, [None] * 3], 0))
        self.assertEqual(painted_by_squares([], (1, 1), 1), ([[None]], 0))

    def test_behind_and_in_front(self):
        near, far = level(1), level(2)
        self.assertEqual(painted_by_squares([near, far], (4, 4), 2), ([[0] * 4] * 4, 4))
        self.assertEqual(painted_by_squares([far, near], (4, 4), 2), ([[1] * 4] * 4, 0))
        self.assertEqual(painted_by_squares([far, near, far, far], (4, 4), 4), ([[1] * 4] * 4, 2))

    def test_alike_depths_are_passed_over(self):
        self.assertEqual(painted_by_squares([level(3)] * 3, (4, 4), 2), ([[0] * 4] * 4, 8))

    def test_edge_on_is_left_out_and_not_passed_over(self):
        self.assertEqual(painted_by_squares([level(1)] + EDGE_ON, (4, 4), 2), ([[0] * 4] * 4, 0))
        self.assertEqual(painted_by_squares(EDGE_ON + [level(1), level(1)], (4, 4), 4), ([[8] * 4] * 4, 1))
        self.assertEqual(painted_by_squares(EDGE_ON, (2, 1), 4), ([[None, None]], 0))

    def test_squares_cut_off_at_the_rim(self):
        near, far = level(1), level(2)
        # Of side 2 a board of 5 by 3 has 3 times 2 squares, of side 4 it has 2.
        self.assertEqual(painted_by_squares([near, far], (5, 3), 2)[1], 6)
        self.assertEqual(painted_by_squares([near, far], (5, 3), 4)[1], 2)
        self.assertEqual(painted_by_squares([near, far], (5, 3), 1)[1], 15)
        self.assertEqual(painted_by_squares([near, far], (5, 3), 16)[1], 1)

    def test_the_corners_of_a_square_cut_off_are_those_that_the_board_has(self):
        # The second face is 0 deep at x of 4, and nearer beyond the board only.
        falling = ((-40, -40, 44, 1), (90, -40, -86, 1), (-40, 90, 44, 1))
        self.assertEqual(painted_by_squares([level(0), falling], (5, 3), 4)[1], 2)
        self.assertEqual(painted_by_squares([level(0), falling], (5, 3), 16)[1], 1)
        self.assertEqual(painted_by_squares([level(0), falling], (6, 3), 4)[1], 1)
        self.assertEqual(painted_by_squares([level(0), falling], (6, 3), 16)[1], 0)

    def test_each_of_the_four_corners_counts(self):
        # On a board of 3 by 3 each is nearer than 0 in one corner alone.
        for top_left, right, down in [(-1, 1, 1), (1, -1, 1), (1, 1, -1), (3, -1, -1)]:
            face = tuple((x, y, top_left + right * x + down * y, 1) for x, y in [(-40, -40), (90, -40), (-40, 90)])
            numbers, passed = painted_by_squares([level(0), face], (3, 3), 3)
            self.assertEqual(sorted(number for row in numbers for number in row), [0] * 8 + [1])
            self.assertEqual(passed, 0)

    def test_a_face_without_dots_in_the_square_is_passed_over_by_its_flat(self):
        behind = ((50, 50, 2, 1), (60, 50, 2, 1), (50, 60, 2, 1))
        before = ((50, 50, 0, 1), (60, 50, 0, 1), (50, 60, 0, 1))
        self.assertEqual(painted_by_squares([level(1), behind, before], (4, 4), 2), ([[0] * 4] * 4, 4))

    def test_only_where_every_dot_has_a_face(self):
        left = over(0, 0, 2, 4, 1)
        # In the squares to the left all is behind; to the right nothing is there yet.
        self.assertEqual(
            painted_by_squares(left + [level(5)], (4, 4), 2),
            ([[0, 0, 2, 2], [1, 0, 2, 2], [1, 0, 2, 2], [1, 1, 2, 2]], 2),
        )
        self.assertEqual(painted_by_squares(left + [level(5)], (4, 4), 4)[1], 0)

    def test_one_dot_without_a_face_is_enough(self):
        all_but_one = over(0, 0, 4, 3, 1) + over(0, 3, 3, 1, 1)
        self.assertEqual(painted_by_squares(all_but_one + [level(5)], (4, 4), 4)[1], 0)
        # The first one fills the square, so the second one is passed over.
        self.assertEqual(painted_by_squares(all_but_one + [level(5), level(5)], (4, 4), 4)[1], 1)
        # Of the six faces, square by square: 2 to 5; 3 to 5; 1 to 5; and 5 alone, in the square of that dot.
        self.assertEqual(painted_by_squares(all_but_one + [level(5), level(5)], (4, 4), 2)[1], 4 + 3 + 5 + 1)
        whole = all_but_one + over(3, 3, 1, 1, 1)[:1]
        self.assertEqual(painted_by_squares(whole + [level(5)], (4, 4), 4)[1], 1)

    def test_the_greatest_of_the_depths_there_counts(self):
        # All dots at 1 but one at 3: what is 2 deep is seen at that dot, what is 3 deep is passed over.
        faces = over(0, 0, 4, 3, 1) + over(0, 3, 3, 1, 1) + over(3, 3, 1, 1, 3)[:1]
        numbers, passed = painted_by_squares(faces + [level(2)], (4, 4), 4)
        self.assertEqual((numbers[3][3], passed), (5, 0))
        numbers, passed = painted_by_squares(faces + [level(3)], (4, 4), 4)
        self.assertEqual((numbers[3][3], passed), (4, 1))

    def test_what_was_painted_over_counts_by_what_is_there_now(self):
        self.assertEqual(painted_by_squares([level(9), level(1), level(5)], (2, 2), 2), ([[1, 1], [1, 1]], 1))

    def test_depths_below_0_and_in_parts(self):
        third = ((-40, -40, -1, 1), (90, -40, -1, 1), (-121, 269, -3, 3))
        self.assertEqual(painted_by_squares([third, level(-1), level(-2)], (2, 2), 1), ([[2, 2], [2, 2]], 4))

    def test_the_picture_is_that_of_painted_for_every_side(self):
        chance = random.Random(25)
        for board in BOARDS + [(9, 13)]:
            faces = chance.sample(BOARD_FACES + EDGE_ON, 16) + [level(0), SLANTED]
            expected = painted(faces, board)
            for side in SIDES:
                told = painted_by_squares(faces, board, side)
                self.assertIs(type(told), tuple)
                self.assertEqual(len(told), 2)
                self.assertEqual(told[0], expected)
                self.assertIs(type(told[1]), int)

    def test_how_many_times_as_reckoned(self):
        chance = random.Random(52)
        levels = [level(depth) for depth in range(-2, 3)]
        many = 0
        for step in range(30):
            faces = chance.choices(WHOLE_FACES + levels * 3 + EDGE_ON, k=chance.randint(1, 24))
            board = (chance.randint(1, 7), chance.randint(1, 7))
            side = chance.randint(1, 5)
            picture, passed = painted_by_squares(faces, board, side)
            self.assertEqual(passed, passed_reckoned(faces, board, side), (faces, board, side))
            self.assertEqual(picture, painted(faces, board))
            many += passed
        self.assertGreater(many, 100)

    def test_what_is_no_board_or_no_side_is_refused(self):
        for thing in NO_BOARDS + ANY_THINGS:
            refused(self, NoBoard, painted_by_squares, [HERE], thing, 4)
            refused(self, NoBoard, painted_by_squares, [], thing, 4)
            refused(self, NoBoard, painted_by_squares, [], thing, thing)
        for thing in NO_SIDES:
            refused(self, NoBoard, painted_by_squares, [HERE], (4, 4), thing)
            refused(self, NoBoard, painted_by_squares, EDGE_ON, (4, 4), thing)
            refused(self, NoBoard, painted_by_squares, [], (4, 4), thing)

    def test_what_is_told_is_the_askers_own(self):
        asks_again(self, painted_by_squares, [], (3, 16), 4)
        asks_again(self, painted_by_squares, [HERE, level(2), level(3)], (5, 4), 2)

    def test_what_is_done_to_faces_behind_the_call_changes_no_answer(self):
        faces = [HERE, level(1)]
        told = painted_by_squares(faces, (2, 1), 1)
        faces.clear()
        self.assertEqual(told, ([[0, 0]], 2))


if __name__ == "__main__":
    unittest.main()

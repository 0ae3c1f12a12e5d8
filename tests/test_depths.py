import itertools
import random
import unittest

from onceshade.depths import depth_at, ins_and_outs, painted, seen_at
from onceshade.dots import has_dot
from onceshade.errors import NoBoard, NoFace
from onceshade.flats import cut_all
from onceshade.moves import after, faces_seen, look_from, quarter, shift, slant, still, stretch
from helpers import ANY_THINGS, GREATEST, asks_again, is_tuple_of_whole, refused
from reckon import as_pair, depth_reckoned, seen_reckoned
from samples import (
    AWAY, BEYOND_HERE, BOARD_FACES, BOARDS, CUBE, EDGE_ON, GREAT_FACES, HERE, NO_BOARDS, PART_FACES, SLANTED, TETRAHEDRON,
    TRIANGLE, WHOLE_FACES,
)

DOTS = list(itertools.product(range(16), repeat=2))
AROUND = list(itertools.product(range(-3, 19), repeat=2))
FAR_DOTS = [(GREATEST, -GREATEST), (-GREATEST, 7), (10 ** 6, 10 ** 6)]


def level(depth, left=0, top=0, length=8):
    """A face at one depth, here a whole number."""
    return ((left, top, depth, 1), (left + length, top, depth, 1), (left, top + length, depth, 1))


class Depth(unittest.TestCase):
    def test_examples(self):
        self.assertEqual(depth_at(HERE, (1, 1)), (1, 1))
        # The face goes one deeper with each dot to the right, one nearer with each one down.
        self.assertEqual(depth_at(SLANTED, (0, 0)), (0, 1))
        self.assertEqual(depth_at(SLANTED, (2, 1)), (1, 1))
        self.assertEqual(depth_at(SLANTED, (1, 3)), (-2, 1))
        self.assertEqual(depth_at(((0, 0, 0, 1), (3, 0, 1, 1), (0, 3, 0, 1)), (1, 0)), (1, 3))
        self.assertEqual(depth_at(((0, 0, 0, 1), (3, 0, -1, 1), (0, 3, 0, 1)), (2, 0)), (-2, 3))

    def test_unlike_last_numbers(self):
        face = ((0, 0, 1, 2), (12, 0, 2, 3), (0, 16, 3, 4))
        # At (0, 0), (4, 0) and (0, 4), at depths a half, two thirds, three fourths.
        self.assertEqual(depth_at(face, (0, 0)), (1, 2))
        self.assertEqual(depth_at(face, (4, 0)), (2, 3))
        self.assertEqual(depth_at(face, (0, 4)), (3, 4))
        self.assertEqual(depth_at(face, (1, 1)), (29, 48))

    def test_beyond_the_face(self):
        self.assertEqual(depth_at(SLANTED, (50, 3)), (47, 1))
        self.assertEqual(depth_at(SLANTED, (-50, 3)), (-53, 1))
        self.assertEqual(depth_at(SLANTED, (GREATEST, -GREATEST)), (2 * GREATEST, 1))
        self.assertEqual(depth_at(HERE, (-GREATEST, GREATEST)), (1, 1))

    def test_as_reckoned(self):
        signs = set()
        for face in BOARD_FACES:
            for dot in AROUND[::3] + FAR_DOTS:
                told = depth_at(face, dot)
                self.assertTrue(is_tuple_of_whole(told, 2))
                self.assertEqual(told, as_pair(depth_reckoned(face, dot)), (face, dot))
                signs.add((has_dot(face, dot), told[0] > 0))
        self.assertEqual(len(signs), 4)

    def test_turned_away_alike(self):
        for face in BOARD_FACES:
            for dot in [(0, 0), (3, 5), (-4, 20), (GREATEST, 1)]:
                told = {depth_at(order, dot) for order in itertools.permutations(face)}
                self.assertEqual(len(told), 1)

    def test_edge_on_is_refused(self):
        for face in EDGE_ON:
            for dot in [(0, 0), (3, 3), (2, 2), (-4, 20), (GREATEST, 1)]:
                refused(self, NoFace, depth_at, face, dot)


class Seen(unittest.TestCase):
    def test_the_nearest(self):
        faces = [level(5), level(3), level(4)]
        self.assertEqual(seen_at(faces, (1, 1)), 1)
        self.assertEqual(seen_at(faces[::2], (1, 1)), 1)
        self.assertEqual(seen_at([level(-5), level(-7), level(0)], (1, 1)), 1)
        self.assertEqual(seen_at([level(0), level(-1)], (1, 1)), 1)

    def test_of_alike_ones_the_least_number(self):
        self.assertEqual(seen_at([level(5), level(3), level(3), level(3)], (1, 1)), 1)
        self.assertEqual(seen_at([AWAY, HERE], (1, 1)), 0)
        self.assertEqual(seen_at([HERE, AWAY], (1, 1)), 0)
        # Alike at this dot alone.
        self.assertEqual([seen_at([SLANTED, level(0)], (at, 2)) for at in range(4)], [0, 0, 0, 1])
        self.assertEqual([seen_at([level(0), SLANTED], (at, 2)) for at in range(4)], [1, 1, 0, 0])

    def test_only_faces_that_have_the_dot(self):
        faces = [level(1, 4, 4), level(9)]
        self.assertEqual(seen_at(faces, (1, 1)), 1)
        self.assertEqual(seen_at(faces, (5, 5)), 0)
        self.assertEqual(seen_at([EDGE_ON[0], level(9), EDGE_ON[3]], (3, 3)), 1)

    def test_none(self):
        self.assertIsNone(seen_at([], (0, 0)))
        self.assertIsNone(seen_at([HERE, BEYOND_HERE], (9, 9)))
        self.assertIsNone(seen_at(EDGE_ON, (3, 3)))
        self.assertIsNone(seen_at([HERE], (4, 0)))

    def test_the_number_nought_is_a_number(self):
        told = seen_at([HERE], (0, 0))
        self.assertEqual(told, 0)
        self.assertIs(type(told), int)

    def test_beyond_any_board(self):
        self.assertEqual(seen_at([level(5, -100, -100), level(4, -100, -100)], (-99, -99)), 1)
        self.assertEqual(seen_at([level(5, GREATEST, 50)], (GREATEST, 50)), 0)

    def test_as_reckoned(self):
        chance = random.Random(18)
        for step in range(12):
            faces = chance.sample(BOARD_FACES + EDGE_ON, chance.randint(1, 24))
            for dot in chance.sample(DOTS, 40):
                self.assertEqual(seen_at(faces, dot), seen_reckoned(faces, dot))

    def test_what_is_handed_in_stays(self):
        asks_again(self, seen_at, list(BOARD_FACES), (3, 3))


class Painted(unittest.TestCase):
    def test_example(self):
        self.assertEqual(
            painted([HERE, BEYOND_HERE], (5, 4)),
            [
                [0, 0, 0, 0, None],
                [0, 0, 0, 1, None],
                [0, 0, 1, 1, None],
                [0, 1, 1, 1, None],
            ],
        )

    def test_rows_go_down_and_places_to_the_right(self):
        self.assertEqual(painted([level(1, 2, 0, 2)], (4, 2)), [[None, None, 0, 0], [None, None, 0, None]])

    def test_two_that_go_through_each_other(self):
        self.assertEqual(painted([SLANTED, level(0, 0, 0, 6)], (3, 3)), [[0, 1, 1], [0, 0, 1], [0, 0, 0]])

    def test_each_dot_is_what_is_seen_there(self):
        chance = random.Random(81)
        for wide, high in BOARDS:
            faces = chance.sample(BOARD_FACES + EDGE_ON, 24)
            told = painted(faces, (wide, high))
            self.assertIs(type(told), list)
            self.assertEqual(told, [[seen_reckoned(faces, (x, y)) for x in range(wide)] for y in range(high)])

    def test_no_faces(self):
        self.assertEqual(painted([], (2, 3)), [[None, None], [None, None], [None, None]])
        self.assertEqual(painted([], (1, 1)), [[None]])

    def test_what_is_no_board_is_refused(self):
        for thing in NO_BOARDS + ANY_THINGS:
            refused(self, NoBoard, painted, [HERE], thing)
            refused(self, NoBoard, painted, [], thing)
            refused(self, NoBoard, painted, EDGE_ON, thing)

    def test_what_is_told_is_the_askers_own(self):
        asks_again(self, painted, [], (3, 16))
        asks_again(self, painted, [HERE, BEYOND_HERE, HERE], (16, 5))
        asks_again(self, painted, list(BOARD_FACES), (4, 4))

    def test_what_is_done_to_faces_behind_the_call_changes_no_answer(self):
        faces = [HERE]
        told = painted(faces, (2, 1))
        faces.clear()
        self.assertEqual(told, [[0, 0]])


class InsAndOuts(unittest.TestCase):
    def test_none_some_and_all(self):
        self.assertEqual(ins_and_outs([], (1, 1)), (0, 0))
        self.assertEqual(ins_and_outs([HERE, AWAY, BEYOND_HERE], (9, 9)), (0, 0))
        self.assertEqual(ins_and_outs([HERE, AWAY, HERE, BEYOND_HERE], (1, 1)), (2, 1))
        self.assertEqual(ins_and_outs([HERE, AWAY, HERE, BEYOND_HERE], (3, 3)), (1, 0))
        self.assertEqual(ins_and_outs([HERE] * 24, (0, 0)), (24, 0))
        self.assertEqual(ins_and_outs([AWAY] * 24, (0, 0)), (0, 24))
        self.assertEqual(ins_and_outs(EDGE_ON + [AWAY], (3, 0)), (0, 1))
        self.assertTrue(is_tuple_of_whole(ins_and_outs([HERE], (0, 0)), 2))

    def test_the_least_faces(self):
        least = ((0, 0, 0, 1), (1, 0, 0, 1), (0, 1, 0, 1))
        self.assertEqual(ins_and_outs([least], (0, 0)), (1, 0))
        self.assertEqual(ins_and_outs([least[::-1]], (0, 0)), (0, 1))

    def test_sides_count_where_the_dot_is_had(self):
        self.assertEqual(ins_and_outs([HERE, BEYOND_HERE], (2, 2)), (1, 0))
        self.assertEqual(ins_and_outs([HERE, BEYOND_HERE], (4, 0)), (0, 0))

    def test_a_line_goes_into_a_closed_body_as_often_as_it_comes_out(self):
        moves = [
            still(), shift(3, 2, 5), quarter(0), quarter(1), quarter(2), slant(0, 2, 3), slant(1, 0, -2),
            stretch(2, 3, 5), stretch(-2, 3, 1), look_from(7), after(look_from(20), shift(-1, -1, 1)),
            after(look_from(9), after(shift(1, 1, 9), after(quarter(1), slant(2, 0, 1)))),
            ((1, 2, 3, 4), (5, -6, 7, 8), (9, 10, -11, 12), (0, 0, 1, 2)),
        ]
        met = 0
        for body in [CUBE, ([(x, y, z + 1) for x, y, z in TETRAHEDRON[0]], TETRAHEDRON[1])]:
            for move in moves:
                placed = after(shift(4, 4, 0), move) if move[3] == (0, 0, 0, 1) else move
                faces = faces_seen(body, placed)
                for dot in AROUND:
                    ins, outs = ins_and_outs(faces, dot)
                    self.assertEqual(ins, outs)
                    met += ins
        self.assertGreater(met, 500)

    def test_a_body_that_is_not_closed(self):
        self.assertEqual(ins_and_outs(faces_seen(TRIANGLE, still()), (1, 1)), (1, 0))

    def test_what_is_handed_in_stays(self):
        asks_again(self, ins_and_outs, [HERE, AWAY], (1, 1))


class Cut(unittest.TestCase):
    def test_a_face_cut_is_painted_as_it_was_whole_and_so_deep(self):
        flats = [(1, 0, 0, -2), (0, 1, 0, -3), (1, 1, 1, -7), (2, -3, 1, 0), (-5, 1, 2, 9), (1, -1, 0, 0)]
        for face in WHOLE_FACES + PART_FACES + GREAT_FACES[:3]:
            pieces = [face]
            for flat in flats[:4]:
                pieces = cut_all(pieces, flat) + cut_all(pieces, tuple(-number for number in flat))
            for dot in DOTS[::5]:
                number = seen_at(pieces, dot)
                self.assertEqual(number is not None, has_dot(face, dot))
                if number is not None:
                    self.assertEqual(depth_at(pieces[number], dot), depth_at(face, dot))

    def test_one_flat_at_a_time(self):
        flats = [(1, 0, 0, -2), (0, 1, 0, -3), (0, 0, 1, -1), (0, 0, 1, 0), (1, 1, 1, -7), (2, -3, 1, 0), (1, -1, 0, 0)]
        for face, flat in itertools.product(WHOLE_FACES, flats):
            pieces = cut_all([face], flat) + cut_all([face], tuple(-number for number in flat))
            whole = painted([face], (9, 9))
            told = [[None if number is None else 0 for number in row] for row in painted(pieces, (9, 9))]
            self.assertEqual(told, whole)
            for x, y in itertools.product(range(9), repeat=2):
                if whole[y][x] is not None:
                    self.assertEqual(depth_at(pieces[seen_at(pieces, (x, y))], (x, y)), depth_at(face, (x, y)))


if __name__ == "__main__":
    unittest.main()

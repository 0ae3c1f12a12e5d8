import itertools
import random
import unittest

from onceshade.dots import dots_of
from onceshade.errors import NoBoard
from onceshade.flats import cut_all
from onceshade.spans import spans_of
from onceshade.spots import spot
from helpers import ANY_THINGS, GREATEST, asks_again, is_tuple_of_whole, refused
from reckon import has_reckoned
from samples import AWAY, BEYOND_HERE, BOARD_FACES, BOARDS, EDGE_ON, GREAT_FACES, HERE, NO_BOARDS, WHOLE_FACES


def spans_of_dots(dots):
    """The spans that dots of a board have, row by row."""
    rows = {}
    for x, y in dots:
        rows.setdefault(y, []).append(x)
    return [(y, min(rows[y]), max(rows[y])) for y in sorted(rows)]


def chance_face(chance, greatest, parts):
    return tuple(
        spot(*[chance.randint(-greatest, greatest) for number in range(3)], chance.randint(1, parts)) for corner in range(3)
    )


class Spans(unittest.TestCase):
    def test_examples(self):
        self.assertEqual(spans_of(HERE, (16, 16)), [(0, 0, 3), (1, 0, 2), (2, 0, 1), (3, 0, 0)])
        self.assertEqual(spans_of(AWAY, (16, 16)), [(0, 0, 3), (1, 0, 2), (2, 0, 1), (3, 0, 0)])
        self.assertEqual(spans_of(BEYOND_HERE, (16, 16)), [(1, 3, 3), (2, 2, 3), (3, 1, 3)])

    def test_cut_off_at_the_rim_of_the_board(self):
        self.assertEqual(spans_of(HERE, (2, 3)), [(0, 0, 1), (1, 0, 1), (2, 0, 1)])
        self.assertEqual(spans_of(BEYOND_HERE, (3, 4)), [(2, 2, 2), (3, 1, 2)])
        self.assertEqual(spans_of(HERE, (1, 1)), [(0, 0, 0)])
        self.assertEqual(spans_of(BEYOND_HERE, (1, 1)), [])
        around = ((-20, -20, 7, 1), (40, -20, 9, 1), (-20, 40, -8, 1))
        self.assertEqual(spans_of(around, (4, 2)), [(0, 0, 3), (1, 0, 3)])

    def test_sides_along_a_row(self):
        # The side along row 2 is the upper one, then the lower one.
        self.assertEqual(spans_of(((1, 2, 0, 1), (5, 2, 0, 1), (1, 4, 0, 1)), (9, 9)), [(2, 1, 4), (3, 1, 2)])
        self.assertEqual(spans_of(((1, 2, 0, 1), (5, 2, 0, 1), (1, 0, 0, 1)), (9, 9)), [(1, 1, 2)])

    def test_rows_without_dots_are_left_out(self):
        # Between the dots of the upper and the lower rows it is too thin to have one.
        thin = ((1, 1, 0, 3), (14, 1, 0, 3), (19, 46, 0, 6))
        told = spans_of(thin, (16, 16))
        self.assertEqual(told, spans_of_dots(dots_of(thin, (16, 16))))
        self.assertEqual([span[0] for span in told], [1, 2, 3, 4, 5, 6, 7])
        between = ((1, 1, 0, 3), (40, 1, 0, 3), (20, 2, 0, 3))
        self.assertEqual(spans_of(between, (16, 16)), [])
        thin = ((0, 0, 0, 1), (1, 0, 0, 9), (3, 9, 0, 2))
        self.assertNotEqual([span[0] for span in spans_of(thin, (16, 16))], list(range(5)))

    def test_edge_on_has_none(self):
        for face in EDGE_ON:
            for order in itertools.permutations(face):
                for board in BOARDS:
                    self.assertEqual(spans_of(order, board), [])

    def check(self, face, board):
        told = spans_of(face, board)
        self.assertIs(type(told), list)
        self.assertTrue(all(is_tuple_of_whole(span, 3) for span in told))
        dots = dots_of(face, board)
        self.assertEqual(told, spans_of_dots(dots), (face, board))
        # It has all between.
        self.assertEqual(sorted((x, y) for y, first, last in told for x in range(first, last + 1)), dots)
        return told

    def test_just_the_rows_and_the_dots_that_the_face_has(self):
        for corners in BOARD_FACES:
            for face in itertools.permutations(corners):
                for board in BOARDS:
                    self.check(face, board)

    def test_as_reckoned_with_the_dot_moved(self):
        for face in BOARD_FACES + EDGE_ON:
            dots = [dot for dot in itertools.product(range(16), repeat=2) if has_reckoned(face, dot)]
            self.assertEqual(spans_of(face, (16, 16)), spans_of_dots(dots))

    def test_faces_by_chance(self):
        chance = random.Random(16)
        many = 0
        for greatest, parts in [(3, 1), (9, 1), (20, 1), (20, 3), (60, 9), (10 ** 6, 10 ** 5)]:
            for step in range(120):
                many += len(self.check(chance_face(chance, greatest, parts), (16, 16)))
        self.assertGreater(many, 1000)

    def test_great_numbers_over_beside_and_across_the_board(self):
        over = ((-GREATEST, -GREATEST, 5, 1), (GREATEST, -GREATEST, 7, 1), (0, GREATEST, -3, 1))
        self.assertEqual(spans_of(over, (16, 16)), [(y, 0, 15) for y in range(16)])
        beside = ((GREATEST, 0, 0, 1), (GREATEST, 15, 0, 1), (GREATEST - 5, 7, 0, 1))
        self.assertEqual(spans_of(beside, (16, 16)), [])
        below = ((0, GREATEST, 0, 1), (15, GREATEST, 0, 1), (7, 16, 0, 1))
        self.assertEqual(spans_of(below, (16, 16)), [])
        right_of_the_slope = ((0, 0, 0, 1), (GREATEST, 0, 0, 1), (GREATEST, GREATEST, 0, 1))
        self.assertEqual(spans_of(right_of_the_slope, (16, 16)), [(y, y, 15) for y in range(16)])
        left_of_the_slope = ((0, 0, 0, 1), (0, GREATEST, 0, 1), (GREATEST, GREATEST, 0, 1))
        self.assertEqual(spans_of(left_of_the_slope, (16, 16)), [(y, 0, y - 1) for y in range(1, 16)])
        band = ((-GREATEST, 3, 0, 1), (GREATEST, 3, 0, 1), (GREATEST, 5, 0, 1))
        # The lower side goes through the dot (0, 4).
        self.assertEqual(spans_of(band, (16, 16)), [(3, 0, 15), (4, 0, 15)])

    def test_numbers_however_great(self):
        chance = random.Random(61)
        for great in (10 ** 13, 10 ** 40, 10 ** 200):
            for face in WHOLE_FACES[:4]:
                far = tuple(spot(x * great + chance.randint(0, 9), y * great, z, 1) for x, y, z, w in face)
                self.check(far, (16, 16))
                near = tuple(spot(x * great + 1, y * great - 1, z, great) for x, y, z, w in face)
                self.check(near, (16, 16))
            across = ((-great, -great, 0, 1), (great, great, 0, 1), (great, great + 9, 0, 1))
            self.assertTrue(self.check(across, (16, 16)))

    def test_told_pieces_of_great_faces(self):
        for face in GREAT_FACES:
            pieces = [face]
            for flat in [(1, 1, 1, -7), (3, -5, 2, 11), (-7, 2, 1, 1)]:
                pieces = cut_all(pieces, flat) + cut_all(pieces, tuple(-number for number in flat))
            spans = [self.check(piece, (16, 16)) for piece in pieces]
            covered = sorted({(x, y) for told in spans for y, first, last in told for x in range(first, last + 1)})
            self.assertEqual(covered, dots_of(face, (16, 16)))

    def test_what_is_no_board_is_refused(self):
        for thing in NO_BOARDS + ANY_THINGS:
            for face in [HERE, GREAT_FACES[0], EDGE_ON[0], EDGE_ON[3]]:
                refused(self, NoBoard, spans_of, face, thing)

    def test_what_is_told_is_the_askers_own(self):
        for face in BOARD_FACES + EDGE_ON:
            asks_again(self, spans_of, face, (16, 16))


if __name__ == "__main__":
    unittest.main()

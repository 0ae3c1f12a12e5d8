import itertools
import unittest
from fractions import Fraction

from onceshade.errors import NoFlat
from onceshade.flats import area, cut, cut_all, turn, worth
from onceshade.numbers import plus
from onceshade.spots import spot
from helpers import ANY_THINGS, GREATEST, asks_again, is_tuple_of_whole, refused
from samples import AWAY, HERE

EDGE_ON = ((0, 0, 0, 1), (2, 2, 5, 1), (4, 4, 0, 1))
FACES = [
    HERE, AWAY, EDGE_ON,
    ((1, 1, 0, 2), (7, 2, 1, 3), (-5, 9, 2, 4)),
    ((1, 2, 5, 1), (2, 4, 1, 2), (3, 6, 1, 3)),
    ((0, 0, 0, 1), (6, 0, 6, 1), (0, 6, -6, 1)),
    ((-3, 1, 2, 1), (3, 1, 2, 1), (0, -5, -4, 3)),
    ((GREATEST, 0, 1, 1), (0, GREATEST, 2, 1), (-GREATEST, 1, GREATEST, 2)),
    ((1, 0, 0, GREATEST), (0, 1, -1, GREATEST), (GREATEST, GREATEST, 1, GREATEST - 1)),
]
FLATS = [
    (1, 0, 0, -1), (-1, 0, 0, 1), (0, 1, 0, -1), (0, 0, 1, -1), (0, 0, -1, 1), (1, 1, 0, -4), (1, -1, 0, 0),
    (1, 0, 0, 0), (0, 1, 0, 0), (0, 0, 1, 0), (2, 3, -5, 1), (1, 1, 1, 0), (-3, 2, 7, -4), (0, 0, 1, 99), (0, 0, 1, -99),
    (GREATEST, -GREATEST, 1, 5), (1, GREATEST, -GREATEST, -GREATEST), (6, 10, 15, GREATEST),
]
NO_FLATS = ANY_THINGS + [
    (0, 0, 0, 0), (0, 0, 0, 1), (0, 0, 0, -GREATEST), [1, 0, 0, 0], (1, 0, 0), (1, 0, 0, 0, 0), (True, 0, 0, 0),
    (1, 0, 0, False), (1, False, 0, 0), (0, 0, True, 0), ("1", 0, 0, 0), (1, None, 0, 0), (1, 0, [0], 0), (1, 0, 0, (0,)),
    "1000", ((1, 0, 0, 0),), [(1, 0, 0, 0)],
]


def worth_of(flat, numbers):
    return flat[0] * numbers[0] + flat[1] * numbers[1] + flat[2] * numbers[2] + flat[3] * numbers[3]


def contrary(flat):
    return tuple(-number for number in flat)


def double_area(face):
    (ax, ay), (bx, by), (cx, cy) = [(Fraction(x, w), Fraction(y, w)) for x, y, z, w in face]
    return (bx - ax) * (cy - ay) - (by - ay) * (cx - ax)


def in_space(numbers):
    return tuple(Fraction(number, numbers[3]) for number in numbers[:3])


def put_down(face, flat):
    """The places put down on the way round, in fractions."""
    kept = []
    for at in range(3):
        one, other = face[at], face[(at + 1) % 3]
        first, second = Fraction(worth_of(flat, one), one[3]), Fraction(worth_of(flat, other), other[3])
        if first >= 0:
            kept.append(in_space(one))
        if first > 0 > second or first < 0 < second:
            share = first / (first - second)
            kept.append(tuple(a + share * (b - a) for a, b in zip(in_space(one), in_space(other))))
    return kept


class Turns(unittest.TestCase):
    def test_here_away_and_edge_on(self):
        self.assertEqual(turn(HERE), 16)
        self.assertEqual(turn(AWAY), -16)
        self.assertEqual(turn(EDGE_ON), 0)
        self.assertEqual(area(HERE), (16, 1))
        self.assertEqual(area(AWAY), (-16, 1))
        self.assertEqual(area(EDGE_ON), (0, 1))

    def test_faces_that_are_edge_on_without_being_in_one_line(self):
        face = ((1, 2, 5, 1), (2, 4, 1, 2), (7, 7, 7, 1))
        self.assertEqual(turn(face), 0)
        self.assertEqual(area(face), (0, 1))

    def test_unlike_last_numbers(self):
        face = ((1, 1, 0, 2), (7, 2, 1, 3), (-5, 9, 2, 4))
        # 1 (2 * 4 - 3 * 9) - 1 (7 * 4 + 3 * 5) + 2 (7 * 9 + 2 * 5)
        self.assertEqual(turn(face), 84)
        self.assertEqual(area(face), (7, 2))
        self.assertEqual(turn(((1, 1, 5, 2), (7, 2, 4, 3), (-5, 9, 3, 4))), 84)

    def test_as_reckoned_in_fractions(self):
        for face in FACES:
            told = area(face)
            expected = double_area(face)
            self.assertTrue(is_tuple_of_whole(told, 2))
            self.assertEqual(told, (expected.numerator, expected.denominator))
            self.assertIs(type(turn(face)), int)
            self.assertEqual(turn(face), expected * face[0][3] * face[1][3] * face[2][3])

    def test_told_from_another_corner_on(self):
        for a, b, c in FACES:
            self.assertEqual(turn((b, c, a)), turn((a, b, c)))
            self.assertEqual(turn((c, a, b)), turn((a, b, c)))
            self.assertEqual(area((b, c, a)), area((a, b, c)))
            self.assertEqual(area((c, a, b)), area((a, b, c)))
            self.assertEqual(turn((a, c, b)), -turn((a, b, c)))
            self.assertEqual(turn((c, b, a)), -turn((a, b, c)))


class Worth(unittest.TestCase):
    def test_examples(self):
        self.assertEqual(worth((2, 3, 5, 7), (1, 10, 100, 1000)), 7532)
        self.assertEqual(worth((1, 0, 0, -4), (9, 5, 5, 2)), 1)
        self.assertEqual(worth((0, 0, 1, 0), (9, 5, -5, 2)), -5)
        self.assertEqual(worth((1, 1, 0, -2), (1, 1, 8, 1)), 0)

    def test_all_pairs(self):
        for flat in FLATS:
            for face in FACES:
                for corner in face:
                    told = worth(flat, corner)
                    self.assertIs(type(told), int)
                    self.assertEqual(told, worth_of(flat, corner))

    def test_any_two_of_the_first_three_may_be_nought(self):
        for flat in [(1, 0, 0, 0), (0, 1, 0, 0), (0, 0, 1, 0), (-1, 0, 0, 0), (0, -1, 0, 5), (0, 0, -1, 5)]:
            self.assertEqual(worth(flat, (2, 3, 4, 1)), worth_of(flat, (2, 3, 4, 1)))

    def test_what_is_no_flat_is_refused(self):
        for thing in NO_FLATS:
            refused(self, NoFlat, worth, thing, (1, 2, 3, 1))


class Cutting(unittest.TestCase):
    def test_all_above_is_the_face_itself(self):
        self.assertEqual(cut(HERE, (1, 0, 0, 1)), [HERE])
        self.assertEqual(cut(HERE, (0, 0, 1, 0)), [HERE])

    def test_all_below_is_nothing(self):
        self.assertEqual(cut(HERE, (1, 0, 0, -5)), [])
        self.assertEqual(cut(HERE, (0, 0, -1, 0)), [])

    def test_one_corner_above(self):
        a, b, c = HERE
        self.assertEqual(cut(HERE, (-1, -1, 0, 2)), [(a, (2, 0, 1, 1), (0, 2, 1, 1))])
        self.assertEqual(cut(HERE, (1, 0, 0, -2)), [((2, 0, 1, 1), b, (2, 2, 1, 1))])
        self.assertEqual(cut(HERE, (0, 1, 0, -2)), [((2, 2, 1, 1), c, (0, 2, 1, 1))])

    def test_two_corners_above(self):
        a, b, c = HERE
        self.assertEqual(
            cut(HERE, (1, 1, 0, -2)),
            [((2, 0, 1, 1), b, c), ((2, 0, 1, 1), c, (0, 2, 1, 1))],
        )
        self.assertEqual(
            cut(HERE, (-1, 0, 0, 2)),
            [(a, (2, 0, 1, 1), (2, 2, 1, 1)), (a, (2, 2, 1, 1), c)],
        )
        self.assertEqual(
            cut(HERE, (0, -1, 0, 2)),
            [(a, b, (2, 2, 1, 1)), (a, (2, 2, 1, 1), (0, 2, 1, 1))],
        )

    def test_the_spot_between_is_by_the_worths(self):
        face = ((0, 0, 0, 1), (9, 0, 6, 1), (0, 9, 3, 1))
        self.assertEqual(
            cut(face, (1, 1, 0, -1)),
            [((3, 0, 2, 3), face[1], face[2]), ((3, 0, 2, 3), face[2], (0, 3, 1, 3))],
        )
        face = ((0, 0, 0, 1), (9, 0, 3, 2), (0, 9, 0, 1))
        self.assertEqual(cut(face, (-1, 0, 0, 1))[0][1], (3, 0, 1, 3))

    def test_one_corner_in_the_flat(self):
        a, b, c = HERE
        # The two others above, below, and one of each.
        self.assertEqual(cut(HERE, (1, 1, 0, 0)), [HERE])
        self.assertEqual(cut(HERE, (-1, -1, 0, 0)), [])
        self.assertEqual(cut(HERE, (1, -1, 0, 0)), [(a, b, (2, 2, 1, 1))])
        self.assertEqual(cut(HERE, (-1, 1, 0, 0)), [(a, (2, 2, 1, 1), c)])
        self.assertEqual(cut((b, c, a), (1, -1, 0, 0)), [(b, (2, 2, 1, 1), a)])

    def test_two_corners_in_the_flat(self):
        for face in itertools.permutations(HERE):
            self.assertEqual(cut(face, (1, 0, 0, 0)), [face])
            self.assertEqual(cut(face, (-1, 0, 0, 0)), [])
            self.assertEqual(cut(face, (0, 1, 0, 0)), [face])
            self.assertEqual(cut(face, (0, -1, 0, 0)), [])
            self.assertEqual(cut(face, (1, 1, 0, -4)), [])
            self.assertEqual(cut(face, (-1, -1, 0, 4)), [face])

    def test_a_face_that_lies_in_the_flat(self):
        for face in itertools.permutations(HERE):
            self.assertEqual(cut(face, (0, 0, 1, -1)), [face])
            self.assertEqual(cut(face, (0, 0, -1, 1)), [face])

    def test_all_faces_and_flats(self):
        seen = set()
        for corners, flat in itertools.product(FACES, FLATS):
            for face in itertools.permutations(corners):
                pieces = cut(face, flat)
                self.assertIs(type(pieces), list)
                kept = put_down(face, flat)
                expected = [] if len(kept) < 3 else [(kept[0], kept[at], kept[at + 1]) for at in range(1, len(kept) - 1)]
                seen.add(len(kept))
                self.assertEqual([tuple(in_space(corner) for corner in piece) for piece in pieces], expected)
                for piece in pieces:
                    self.assertIs(type(piece), tuple)
                    for corner in piece:
                        self.assertTrue(is_tuple_of_whole(corner, 4))
                        self.assertEqual(spot(*corner), corner)
                        self.assertGreaterEqual(worth(flat, corner), 0)
        self.assertEqual(seen, {0, 1, 2, 3, 4})

    def test_both_sides_come_to_the_whole_face(self):
        for face, flat in itertools.product(FACES, FLATS):
            if all(worth_of(flat, corner) == 0 for corner in face):
                continue
            total = (0, 1)
            for piece in cut(face, flat) + cut(face, contrary(flat)):
                total = plus(total, area(piece))
            self.assertEqual(total, area(face), (face, flat))

    def test_told_pieces_are_cut_again_whatever_their_size(self):
        pieces = [FACES[7]]
        expected = area(FACES[7])
        for flat in [(1, 1, -3, 7), (2, -5, 1, 11), (7, 3, -2, -13), (-3, 8, 5, 1), (1, -1, 1, 17)]:
            pieces = cut_all(pieces, flat) + cut_all(pieces, contrary(flat))
            total = (0, 1)
            for piece in pieces:
                total = plus(total, area(piece))
            self.assertEqual(total, expected)
        self.assertGreater(max(number for piece in pieces for corner in piece for number in corner), 10 ** 24)

    def test_what_is_no_flat_is_refused(self):
        for thing in NO_FLATS:
            refused(self, NoFlat, cut, HERE, thing)


class CuttingAll(unittest.TestCase):
    def test_no_faces(self):
        self.assertEqual(cut_all([], (1, 0, 0, 0)), [])

    def test_pieces_in_order(self):
        for flat in FLATS:
            self.assertEqual(cut_all(FACES, flat), [piece for face in FACES for piece in cut(face, flat)])
            self.assertEqual(cut_all(FACES[::-1], flat), [piece for face in FACES[::-1] for piece in cut(face, flat)])

    def test_any_many_faces(self):
        self.assertEqual(cut_all([HERE] * 60, (1, 1, 0, -2)), cut(HERE, (1, 1, 0, -2)) * 60)

    def test_what_is_no_flat_is_refused(self):
        for thing in NO_FLATS:
            refused(self, NoFlat, cut_all, FACES, thing)
            refused(self, NoFlat, cut_all, [], thing)


class Own(unittest.TestCase):
    def test_what_is_told_is_the_askers_own(self):
        for face, flat in itertools.product(FACES, FLATS):
            asks_again(self, cut, face, flat)
            asks_again(self, cut_all, [face, HERE], flat)
        for flat in FLATS:
            asks_again(self, cut_all, FACES, flat)
            asks_again(self, cut_all, [], flat)

    def test_what_is_done_to_faces_behind_the_call_changes_no_answer(self):
        faces = [HERE, AWAY]
        told = cut_all(faces, (0, 0, 1, 0))
        faces.clear()
        self.assertEqual(told, [HERE, AWAY])


if __name__ == "__main__":
    unittest.main()

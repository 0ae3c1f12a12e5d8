import itertools
import random
import unittest

from onceshade.dots import dots_of, has_dot
from onceshade.errors import NoBoard
from onceshade.flats import cut_all
from helpers import ANY_THINGS, GREATEST, asks_again, is_tuple_of_whole, refused
from reckon import has_reckoned
from samples import AWAY, BEYOND_HERE, BOARD_FACES, BOARDS, EDGE_ON, HERE, NO_BOARDS, PART_FACES, WHOLE_FACES

AROUND = list(itertools.product(range(-3, 19), repeat=2))


def at(x, y):
    return (x, y, 0, 1)


class Having(unittest.TestCase):
    def test_within_and_beyond(self):
        self.assertIs(has_dot(HERE, (1, 1)), True)
        self.assertIs(has_dot(HERE, (1, 2)), True)
        for dot in [(3, 3), (-1, 1), (1, -1), (5, 0), (0, 5), (GREATEST, 1), (1, -GREATEST)]:
            self.assertIs(has_dot(HERE, dot), False)

    def test_on_the_sides(self):
        for along in (1, 2, 3):
            self.assertIs(has_dot(HERE, (along, 0)), True)
            self.assertIs(has_dot(HERE, (0, along)), True)
            self.assertIs(has_dot(HERE, (along, 4 - along)), False)
            self.assertIs(has_dot(BEYOND_HERE, (along, 4)), False)
            self.assertIs(has_dot(BEYOND_HERE, (4, along)), False)
            self.assertIs(has_dot(BEYOND_HERE, (along, 4 - along)), True)

    def test_at_the_corners(self):
        self.assertEqual([has_dot(HERE, dot) for dot in [(0, 0), (4, 0), (0, 4)]], [True, False, False])
        self.assertEqual([has_dot(BEYOND_HERE, dot) for dot in [(4, 4), (0, 4), (4, 0)]], [False, False, False])
        # Moved right by next to nothing and down by next to nothing of that: within, by a flat side and by a steep one.
        self.assertIs(has_dot((at(3, 3), at(9, 3), at(9, 9)), (3, 3)), True)
        self.assertIs(has_dot((at(3, 3), at(9, 9), at(3, 9)), (3, 3)), False)
        self.assertIs(has_dot((at(3, 3), at(9, 2), at(9, 4)), (3, 3)), True)
        self.assertIs(has_dot((at(3, 3), at(9, 2), at(9, 3)), (3, 3)), False)

    def test_turned_here_and_away_alike(self):
        for a, b, c in BOARD_FACES:
            for dot in AROUND:
                told = has_dot((a, b, c), dot)
                for face in itertools.permutations((a, b, c)):
                    self.assertIs(has_dot(face, dot), told)

    def test_edge_on_has_none(self):
        for face in EDGE_ON:
            for dot in AROUND + [(GREATEST, GREATEST), (-GREATEST, -GREATEST)]:
                for order in itertools.permutations(face):
                    self.assertIs(has_dot(order, dot), False)

    def test_as_reckoned_with_the_dot_moved(self):
        found = set()
        for face in BOARD_FACES + EDGE_ON:
            for dot in AROUND:
                told = has_dot(face, dot)
                self.assertIs(type(told), bool)
                self.assertIs(told, has_reckoned(face, dot), (face, dot))
                found.add((face in PART_FACES, told))
        self.assertEqual(len(found), 4)

    def test_small_faces_of_all_shapes(self):
        places = list(itertools.product(range(3), repeat=2))
        dots = list(itertools.product(range(-1, 4), repeat=2))
        for corners in itertools.product(places, repeat=3):
            face = tuple(at(x, y) for x, y in corners)
            for dot in dots:
                self.assertIs(has_dot(face, dot), has_reckoned(face, dot), (face, dot))

    def test_depths_and_unlike_last_numbers_do_not_matter(self):
        for a, b, c in WHOLE_FACES:
            for dot in AROUND:
                told = has_dot((a, b, c), dot)
                deep = ((a[0], a[1], 9, 1), (b[0], b[1], -GREATEST, 1), (c[0], c[1], GREATEST, 1))
                self.assertIs(has_dot(deep, dot), told)
                # A fraction as the depth gives the spot another last number, at the same place of the board.
                parted = ((a[0] * 2, a[1] * 2, 1, 2), (b[0] * 3, b[1] * 3, 1, 3), (c[0] * 5, c[1] * 5, 1, 5))
                self.assertIs(has_dot(parted, dot), told)

    def test_far_off(self):
        far = (GREATEST, -GREATEST)
        face = ((far[0] - 1, far[1] - 1, 0, 1), (far[0] + 1, far[1] - 1, 0, 1), (far[0], far[1] + 1, 0, 1))
        self.assertIs(has_dot(face, far), True)
        self.assertIs(has_dot(face, (far[0] - 1, far[1])), False)
        self.assertIs(has_dot(face, (0, 0)), False)


class SharedSides(unittest.TestCase):
    def check(self, a, b, c, d):
        """The faces a, b, c and b, a, d, c and d on unlike sides of a, b."""
        one, other = (a, b, c), (b, a, d)
        (ax, ay), (bx, by) = a[:2], b[:2]
        between = 0
        for x, y in AROUND:
            both = (has_dot(one, (x, y)), has_dot(other, (x, y)))
            self.assertNotEqual(both, (True, True))
            on_line = (bx - ax) * (y - ay) == (by - ay) * (x - ax)
            if on_line and 0 < (x - ax) * (bx - ax) + (y - ay) * (by - ay) < (bx - ax) ** 2 + (by - ay) ** 2:
                self.assertEqual(sum(both), 1)
                between += 1
        return between

    def test_no_dot_of_both_and_each_on_the_side_of_one(self):
        between = 0
        for a, b in itertools.permutations([(0, 0), (6, 0), (0, 6), (6, 6), (2, 4), (3, 3), (8, 4)], 2):
            (ax, ay), (bx, by) = a, b
            # Straight off the side, both ways.
            c = (ax - (by - ay), ay + (bx - ax))
            d = (ax + 2 * (by - ay), ay - 2 * (bx - ax))
            for turned in (False, True):
                spots = [at(*place) for place in ((b, a, c, d) if turned else (a, b, c, d))]
                between += self.check(*spots)
        self.assertGreater(between, 100)

    def test_faces_around_a_dot_have_it_once(self):
        rim = [(8, 8), (5, 9), (2, 8), (1, 5), (2, 2), (5, 1), (8, 2), (9, 5)]
        for many in ([0, 2, 4, 6], [1, 3, 5, 7], [0, 3, 5], list(range(8))):
            corners = [rim[number] for number in many]
            fan = [
                (at(5, 5), at(*corner), at(*corners[(number + 1) % len(corners)]))
                for number, corner in enumerate(corners)
            ]
            self.assertEqual(sum(has_dot(face, (5, 5)) for face in fan), 1)
            for dot in AROUND:
                self.assertLessEqual(sum(has_dot(face, dot) for face in fan), 1)


class OfABoard(unittest.TestCase):
    def test_examples(self):
        self.assertEqual(
            dots_of(HERE, (16, 16)),
            [(0, 0), (0, 1), (0, 2), (0, 3), (1, 0), (1, 1), (1, 2), (2, 0), (2, 1), (3, 0)],
        )
        self.assertEqual(dots_of(BEYOND_HERE, (4, 4)), [(1, 3), (2, 2), (2, 3), (3, 1), (3, 2), (3, 3)])
        self.assertEqual(dots_of(HERE, (1, 1)), [(0, 0)])
        self.assertEqual(dots_of(BEYOND_HERE, (1, 1)), [])
        self.assertEqual(dots_of(AWAY, (2, 3)), [(0, 0), (0, 1), (0, 2), (1, 0), (1, 1), (1, 2)])
        self.assertEqual(dots_of(HERE, (3, 1)), [(0, 0), (1, 0), (2, 0)])

    def test_a_whole_board(self):
        face = ((-20, -20, 7, 1), (40, -20, 9, 1), (-20, 40, -8, 1))
        self.assertEqual(len(dots_of(face, (10, 10))), 100)
        half = ((0, 0, 5, 1), (16, 0, 3, 1), (0, 16, 4, 1))
        self.assertEqual(len(dots_of(half, (16, 16))), 136)

    def test_just_the_dots_that_the_face_has_sorted(self):
        for face in BOARD_FACES + EDGE_ON:
            for wide, high in BOARDS:
                told = dots_of(face, (wide, high))
                self.assertIs(type(told), list)
                self.assertTrue(all(is_tuple_of_whole(dot, 2) for dot in told))
                expected = [dot for dot in itertools.product(range(wide), range(high)) if has_reckoned(face, dot)]
                self.assertEqual(told, expected)

    def test_edge_on_has_none(self):
        for face in EDGE_ON:
            self.assertEqual(dots_of(face, (16, 16)), [])

    def test_what_is_no_board_is_refused(self):
        for thing in NO_BOARDS + ANY_THINGS:
            for face in [HERE, EDGE_ON[0], EDGE_ON[3], BOARD_FACES[-1]]:
                refused(self, NoBoard, dots_of, face, thing)

    def test_what_is_told_is_the_askers_own(self):
        for face in BOARD_FACES + EDGE_ON:
            asks_again(self, dots_of, face, (5, 4))


class Cut(unittest.TestCase):
    def test_cut_by_flats_each_dot_stands_in_one_piece(self):
        chance = random.Random(15)
        for face in BOARD_FACES:
            pieces = [face]
            for step in range(3):
                flat = tuple(chance.randint(-9, 9) for number in range(3)) + (chance.randint(-60, 60),)
                if flat[:3] == (0, 0, 0):
                    continue
                worths = [[sum(p * q for p, q in zip(flat, corner)) for corner in piece] for piece in pieces]
                # What lies in the flat is kept on both sides of it.
                if [0, 0, 0] in worths:
                    continue
                pieces = cut_all(pieces, flat) + cut_all(pieces, tuple(-number for number in flat))
            self.assertEqual(
                sorted(dot for piece in pieces for dot in dots_of(piece, (16, 16))),
                dots_of(face, (16, 16)),
            )


if __name__ == "__main__":
    unittest.main()

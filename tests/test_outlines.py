import random
import unittest
from fractions import Fraction

from onceshade.bodies import inside_out
from onceshade.errors import Behind
from onceshade.moves import after, look_from, quarter, shift, slant, still, stretch
from onceshade.outlines import outline
from helpers import asks_again, is_tuple_of_whole, refused
from samples import BODIES, CUBE, MOVES, POINT, TETRAHEDRON, TRIANGLE

# The cube about in the middle, ahead of who looks.
AHEAD = after(look_from(8), shift(-1, -1, 3))


def turn_reckoned(body, face, move):
    """Twice the area of what is seen of a face, by Python's fractions."""
    places = []
    for at in face:
        numbers = body[0][at] + (1,)
        x, y, z, w = [sum(one * other for one, other in zip(row, numbers)) for row in move]
        if w <= 0:
            raise Behind
        places.append((Fraction(x, w), Fraction(y, w)))
    (ax, ay), (bx, by), (cx, cy) = places
    return (bx - ax) * (cy - ay) - (by - ay) * (cx - ax)


def outline_reckoned(body, move):
    turns = [turn_reckoned(body, face, move) for face in body[1]]
    found = set()
    for (i, j, k), one in zip(body[1], turns):
        for side in ((i, j), (j, k), (k, i)):
            for (p, q, r), other in zip(body[1], turns):
                if one > 0 >= other and side[::-1] in ((p, q), (q, r), (r, p)):
                    found.add(side)
    return sorted(found)


class Outlines(unittest.TestCase):
    def test_a_cube_straight_on(self):
        # All faces but two are seen from the front or edge on: the rim of the near square.
        self.assertEqual(outline(CUBE, still()), [(0, 1), (1, 2), (2, 3), (3, 0)])

    def test_a_cube_from_a_point(self):
        self.assertEqual(outline(CUBE, AHEAD), [(0, 1), (1, 2), (2, 3), (3, 0)])
        # From above and left of it two more sides of it are seen.
        told = outline(CUBE, after(look_from(8), shift(5, 5, 3)))
        self.assertEqual(told, outline_reckoned(CUBE, after(look_from(8), shift(5, 5, 3))))
        self.assertEqual(told, [(1, 2), (2, 3), (3, 7), (4, 5), (5, 1), (7, 4)])

    def test_a_tetrahedron(self):
        # Straight on two of its faces are edge on: the near one is seen, the outline is its rim.
        self.assertEqual(outline(TETRAHEDRON, still()), [(0, 1), (1, 2), (2, 0)])
        self.assertEqual(outline(TETRAHEDRON, quarter(2)), [(0, 1), (1, 2), (2, 0)])
        # Looked at from behind.
        self.assertEqual(outline(TETRAHEDRON, stretch(-1, 1, 1)), outline_reckoned(TETRAHEDRON, stretch(-1, 1, 1)))

    def test_faces_edge_on_count_as_turned_away(self):
        # Two faces with a side in common: the one here, the other one edge on.
        body = ([(0, 0, 0), (4, 0, 0), (0, 4, 0), (0, 0, 4)], [(0, 1, 2), (1, 0, 3)])
        self.assertEqual(outline(body, still()), [(0, 1)])
        # Edge on both of them.
        self.assertEqual(outline(body, quarter(1)), [])
        self.assertEqual(outline(body, stretch(-1, 1, 1)), [])

    def test_a_side_without_a_fellow_is_no_outline(self):
        self.assertEqual(outline(TRIANGLE, still()), [])
        self.assertEqual(outline(TRIANGLE, stretch(-1, 1, 1)), [])
        corners, faces = CUBE
        open_cube = (corners, faces[:2] + faces[4:])
        # The far square is gone: the near rim has the edge on faces still.
        self.assertEqual(outline(open_cube, still()), [(0, 1), (1, 2), (2, 3), (3, 0)])
        self.assertEqual(outline((corners, faces[:4]), still()), [])
        self.assertEqual(outline((corners, faces[:2] + faces[4:6]), still()), [(0, 1)])

    def test_a_fellow_in_a_face_turned_here_too_is_no_outline(self):
        body = ([(0, 0, 0), (4, 0, 0), (0, 4, 0), (4, 4, 0)], [(0, 1, 2), (1, 3, 2)])
        self.assertEqual(outline(body, still()), [])
        self.assertEqual(outline(inside_out(body), still()), [])

    def test_two_faces_turned_unlike(self):
        # A fold: both sides of it have the side (1, 2), one of the faces turned away.
        body = ([(0, 0, 0), (4, 0, 0), (0, 4, 0), (1, 1, 5)], [(0, 1, 2), (1, 3, 2)])
        self.assertEqual(outline(body, still()), [(1, 2)])
        self.assertEqual(outline(inside_out(body), still()), [(1, 2)])

    def test_each_side_once(self):
        # The side (0, 1) stands in two faces turned here, its fellow in two that are not.
        corners = [(0, 0, 0), (4, 0, 0), (0, 4, 0), (1, 5, 0), (2, 9, 9), (0, 0, 7)]
        body = (corners, [(0, 1, 2), (0, 1, 3), (1, 0, 4), (1, 0, 5)])
        self.assertEqual(outline(body, still()), [(0, 1)])
        # One of the fellow's faces is turned here, one away: that will do.
        corners[4] = (2, -9, 9)
        self.assertEqual(outline(body, still()), [(0, 1)])
        self.assertEqual(outline((corners, body[1][:3]), still()), [])

    def test_a_side_and_its_fellow_both(self):
        # Each of both stands in a face turned here and in one turned away.
        corners = [(0, 0, 0), (4, 0, 0), (0, 4, 0), (0, -4, 0)]
        body = (corners, [(0, 1, 2), (0, 1, 3), (1, 0, 2), (1, 0, 3)])
        self.assertEqual(outline(body, still()), outline_reckoned(body, still()))
        self.assertIn((0, 1), outline(body, still()))
        self.assertIn((1, 0), outline(body, still()))

    def test_no_faces(self):
        self.assertEqual(outline(POINT, still()), [])
        # A corner that no face has may be behind.
        self.assertEqual(outline(POINT, ((1, 0, 0, 0), (0, 1, 0, 0), (0, 0, 1, 0), (0, 0, 0, -1))), [])
        corners, faces = TETRAHEDRON
        self.assertEqual(
            outline((corners + [(0, 0, -99)], faces), after(look_from(3), shift(-1, -1, 2))),
            outline(TETRAHEDRON, after(look_from(3), shift(-1, -1, 2))),
        )

    def test_as_reckoned(self):
        chance = random.Random(28)
        many = 0
        for step in range(300):
            size = chance.randint(3, 7)
            corners = [tuple(chance.randint(-4, 4) for at in range(3)) for corner in range(size)]
            faces = [tuple(chance.sample(range(size), 3)) for face in range(chance.randint(0, 14))]
            move = chance.choice([
                still(), quarter(0), quarter(1), slant(0, 2, 3), after(look_from(5), shift(1, -2, 6)),
                after(look_from(2), after(shift(0, 0, 9), quarter(1))), stretch(-1, 2, 3),
            ])
            told = outline((corners, faces), move)
            self.assertIs(type(told), list)
            self.assertTrue(all(is_tuple_of_whole(side, 2) for side in told))
            self.assertEqual(told, outline_reckoned((corners, faces), move))
            many += len(told)
        self.assertGreater(many, 500)

    def test_by_moves_of_great_numbers(self):
        for body in BODIES:
            for move in MOVES:
                try:
                    expected = outline_reckoned(body, move)
                except Behind:
                    refused(self, Behind, outline, body, move)
                else:
                    self.assertEqual(outline(body, move), expected)

    def test_behind(self):
        refused(self, Behind, outline, TETRAHEDRON, look_from(1))
        refused(self, Behind, outline, TETRAHEDRON, after(look_from(1), shift(0, 0, -4)))
        refused(self, Behind, outline, TRIANGLE, shift(0, 0, 0)[:3] + ((0, 0, 0, 0),))
        self.assertEqual(outline(TRIANGLE, look_from(1)), [])

    def test_what_is_told_is_the_askers_own(self):
        for body in BODIES:
            asks_again(self, outline, body, still())
        asks_again(self, outline, CUBE, AHEAD)

    def test_what_is_done_to_a_body_behind_the_call_changes_no_answer(self):
        corners, faces = [list(part) for part in CUBE]
        told = outline((corners, faces), still())
        corners.clear()
        faces.clear()
        self.assertEqual(told, [(0, 1), (1, 2), (2, 3), (3, 0)])


if __name__ == "__main__":
    unittest.main()

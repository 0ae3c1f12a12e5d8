import copy
import itertools
import unittest

from onceshade.errors import Behind, NoMove
from onceshade.flats import area
from onceshade.moves import after, faces_seen, look_from, moved, quarter, shift, slant, still, stretch
from onceshade.numbers import plus
from onceshade.spots import spot
from helpers import ANY_THINGS, GREATEST, asks_again, is_tuple_of_whole, refused
from samples import BODIES, CUBE, FULL, MOVES, ODD, POINT, SPOTS, STILL, TETRAHEDRON, TRIANGLE


def sums_of(move, numbers):
    return tuple(sum(row[at] * numbers[at] for at in range(4)) for row in move)


def product_of(one, other):
    return tuple(
        tuple(sum(one[row][at] * other[at][place] for at in range(4)) for place in range(4))
        for row in range(4)
    )


def is_move(value):
    return type(value) is tuple and len(value) == 4 and all(is_tuple_of_whole(row, 4) for row in value)


class Rows(unittest.TestCase):
    def test_still(self):
        self.assertEqual(still(), STILL)
        self.assertTrue(is_move(still()))

    def test_shift(self):
        self.assertEqual(shift(5, -6, 7), ((1, 0, 0, 5), (0, 1, 0, -6), (0, 0, 1, 7), (0, 0, 0, 1)))
        self.assertEqual(shift(0, 0, 0), STILL)
        self.assertEqual(
            shift(GREATEST, -GREATEST, 0),
            ((1, 0, 0, GREATEST), (0, 1, 0, -GREATEST), (0, 0, 1, 0), (0, 0, 0, 1)),
        )
        self.assertTrue(is_move(shift(1, 2, 3)))

    def test_quarter(self):
        self.assertEqual(quarter(0), ((1, 0, 0, 0), (0, 0, -1, 0), (0, 1, 0, 0), (0, 0, 0, 1)))
        self.assertEqual(quarter(1), ((0, 0, 1, 0), (0, 1, 0, 0), (-1, 0, 0, 0), (0, 0, 0, 1)))
        self.assertEqual(quarter(2), ((0, -1, 0, 0), (1, 0, 0, 0), (0, 0, 1, 0), (0, 0, 0, 1)))
        for axis in range(3):
            self.assertTrue(is_move(quarter(axis)))

    def test_quarter_turns_of_a_spot(self):
        self.assertEqual(moved(quarter(2), (3, 4, 5, 1)), (-4, 3, 5, 1))
        self.assertEqual(moved(quarter(1), (3, 4, 5, 1)), (5, 4, -3, 1))
        self.assertEqual(moved(quarter(0), (3, 4, 5, 1)), (3, -5, 4, 1))
        for axis in range(3):
            half = after(quarter(axis), quarter(axis))
            self.assertNotEqual(half, STILL)
            self.assertEqual(after(half, half), STILL)

    def test_slant(self):
        for i, j in itertools.permutations(range(3), 2):
            for m in [0, 1, -9, GREATEST, -GREATEST]:
                rows = [list(row) for row in STILL]
                rows[i][j] = m
                self.assertEqual(slant(i, j, m), tuple(tuple(row) for row in rows))
                self.assertTrue(is_move(slant(i, j, m)))
        self.assertEqual(moved(slant(0, 2, 10), (3, 4, 5, 1)), (53, 4, 5, 1))
        self.assertEqual(moved(slant(2, 1, -1), (3, 4, 5, 1)), (3, 4, 1, 1))

    def test_stretch(self):
        self.assertEqual(stretch(2, -3, 5), ((2, 0, 0, 0), (0, -3, 0, 0), (0, 0, 5, 0), (0, 0, 0, 1)))
        self.assertEqual(stretch(1, 1, 1), STILL)
        self.assertEqual(
            stretch(GREATEST, -1, -GREATEST),
            ((GREATEST, 0, 0, 0), (0, -1, 0, 0), (0, 0, -GREATEST, 0), (0, 0, 0, 1)),
        )
        self.assertTrue(is_move(stretch(1, 2, 3)))

    def test_look_from(self):
        for d in [1, 2, 8, GREATEST]:
            self.assertEqual(look_from(d), ((d, 0, 0, 0), (0, d, 0, 0), (0, 0, 1, -1), (0, 0, 1, 0)))
            self.assertTrue(is_move(look_from(d)))
        # d times x over z, d times y over z, 1 less 1 over z.
        self.assertEqual(moved(look_from(8), (3, -2, 4, 1)), (24, -16, 3, 4))
        self.assertEqual(moved(look_from(8), (3, 1, 4, 2)), (12, 4, 1, 2))
        self.assertEqual(moved(look_from(1), (0, 0, 1, 1)), (0, 0, 0, 1))


class Refused(unittest.TestCase):
    def test_axes(self):
        for axis in [-1, 3, 4, -3, GREATEST, -GREATEST]:
            refused(self, NoMove, quarter, axis)
        for thing in ANY_THINGS + [True, False, "0", [0], (0,), (1, 2)]:
            if type(thing) is not int or thing not in (0, 1, 2):
                refused(self, NoMove, quarter, thing)

    def test_coordinates_of_a_slant(self):
        for i, j in itertools.product(range(-2, 6), repeat=2):
            if i == j or i not in (0, 1, 2) or j not in (0, 1, 2):
                refused(self, NoMove, slant, i, j, 5)
        for thing in ANY_THINGS + [True, False, "0", [0], (0,)]:
            if type(thing) is not int or thing not in (0, 1, 2):
                for fit in range(3):
                    refused(self, NoMove, slant, thing, fit, 5)
                    refused(self, NoMove, slant, fit, thing, 5)
                refused(self, NoMove, slant, thing, thing, 0)

    def test_numbers_of_a_stretch(self):
        for thing in ANY_THINGS + [0, True, False, "1", [1], (1,)]:
            if type(thing) is not int or thing == 0:
                refused(self, NoMove, stretch, thing, 2, 3)
                refused(self, NoMove, stretch, 2, thing, 3)
                refused(self, NoMove, stretch, 2, 3, thing)
                refused(self, NoMove, stretch, thing, thing, thing)

    def test_the_d_of_a_look(self):
        for thing in ANY_THINGS + [0, -1, -8, True, False, "1", [1], (1,)]:
            if type(thing) is not int or thing < 1:
                refused(self, NoMove, look_from, thing)


class Moved(unittest.TestCase):
    def test_still_leaves_all(self):
        for numbers in SPOTS:
            self.assertEqual(moved(STILL, numbers), numbers)

    def test_examples(self):
        self.assertEqual(moved(shift(5, -6, 7), (1, 2, 3, 1)), (6, -4, 10, 1))
        self.assertEqual(moved(shift(5, -6, 7), (1, 2, 3, 4)), (21, -22, 31, 4))
        self.assertEqual(moved(shift(1, 1, 1), (1, 3, 5, 2)), (3, 5, 7, 2))
        self.assertEqual(moved(stretch(2, 4, -6), (1, 3, 5, 2)), (1, 6, -15, 1))
        self.assertEqual(moved(MOVES[6], (1, 2, 3, 1)), (9, -3, 17, 6))

    def test_as_the_four_sums(self):
        for move, numbers in itertools.product(MOVES, SPOTS):
            sums = sums_of(move, numbers)
            if sums[3] <= 0:
                refused(self, Behind, moved, move, numbers)
            else:
                told = moved(move, numbers)
                self.assertTrue(is_tuple_of_whole(told, 4))
                self.assertEqual(told, spot(*sums))

    def test_behind_where_the_last_sum_is_nought(self):
        refused(self, Behind, moved, look_from(3), (1, 2, 0, 1))
        refused(self, Behind, moved, look_from(3), (0, 0, 0, 1))
        # All four sums are 0: behind, too.
        refused(self, Behind, moved, ((0, 0, 0, 0),) * 4, (1, 2, 3, 4))
        refused(self, Behind, moved, (STILL[0], STILL[1], STILL[2], (1, 0, 0, -1)), (1, 0, 0, 1))

    def test_behind_where_the_last_sum_is_below(self):
        refused(self, Behind, moved, look_from(3), (1, 2, -1, 1))
        refused(self, Behind, moved, look_from(3), (1, 2, -GREATEST, 7))
        refused(self, Behind, moved, (STILL[0], STILL[1], STILL[2], (0, 0, 0, -1)), (1, 2, 3, 4))

    def test_just_ahead(self):
        self.assertEqual(moved(look_from(3), (1, 2, 1, GREATEST)), (3, 6, 1 - GREATEST, 1))
        self.assertEqual(moved((STILL[0], STILL[1], STILL[2], (1, 0, 0, -1)), (6, 0, 0, 5)), (6, 0, 0, 1))


class After(unittest.TestCase):
    def test_examples(self):
        self.assertEqual(after(shift(1, 2, 3), shift(10, 20, 30)), shift(11, 22, 33))
        self.assertEqual(
            after(shift(1, 0, 0), quarter(2)), ((0, -1, 0, 1), (1, 0, 0, 0), (0, 0, 1, 0), (0, 0, 0, 1)),
        )
        self.assertEqual(
            after(quarter(2), shift(1, 0, 0)), ((0, -1, 0, 0), (1, 0, 0, 1), (0, 0, 1, 0), (0, 0, 0, 1)),
        )

    def test_all_pairs(self):
        for one, other in itertools.product(MOVES, repeat=2):
            told = after(one, other)
            self.assertTrue(is_move(told))
            self.assertEqual(told, product_of(one, other))

    def test_the_still_move_changes_nothing(self):
        for move in MOVES:
            self.assertEqual(after(move, still()), move)
            self.assertEqual(after(still(), move), move)

    def test_grouped_either_way(self):
        for one, other, third in itertools.product(MOVES, repeat=3):
            self.assertEqual(after(after(one, other), third), after(one, after(other, third)))

    def test_it_makes_what_the_one_makes_of_what_the_other_makes(self):
        many = 0
        for one, other, numbers in itertools.product(MOVES, MOVES, SPOTS):
            try:
                expected = moved(one, moved(other, numbers))
            except Behind:
                continue
            self.assertEqual(moved(after(one, other), numbers), expected)
            many += 1
        self.assertGreater(many, 300)

    def test_told_moves_are_handed_in_again_whatever_their_size(self):
        move = expected = MOVES[8]
        for step in range(12):
            move = after(move, MOVES[6 + step % 3]) if step % 3 != 1 else after(move, MOVES[3])
            expected = product_of(expected, MOVES[6 + step % 3] if step % 3 != 1 else MOVES[3])
            self.assertEqual(move, expected)
        self.assertGreater(max(abs(number) for row in move for number in row), 10 ** 60)
        sums = sums_of(move, (1, 2, 3, 4))
        self.assertNotEqual(sums[3], 0)
        if sums[3] < 0:
            refused(self, Behind, moved, move, (1, 2, 3, 4))
            move = after(move, ((-1, 0, 0, 0), (0, -1, 0, 0), (0, 0, -1, 0), (0, 0, 0, -1)))
            sums = tuple(-number for number in sums)
        told = moved(move, (1, 2, 3, 4))
        self.assertEqual(told, spot(*sums))
        self.assertEqual(moved(STILL, told), told)


class FacesSeen(unittest.TestCase):
    def test_straight_on(self):
        self.assertEqual(faces_seen(TRIANGLE, STILL), [((0, 0, 1, 1), (4, 0, 1, 1), (0, 4, 1, 1))])
        self.assertEqual(faces_seen(POINT, STILL), [])

    def test_from_a_point(self):
        body = ([(0, 0, 2), (4, 0, 2), (0, 4, 4)], [(0, 1, 2), (2, 1, 0)])
        a, b, c = (0, 0, 1, 2), (32, 0, 1, 2), (0, 32, 3, 4)
        self.assertEqual(faces_seen(body, look_from(8)), [(a, b, c), (c, b, a)])

    def test_in_order(self):
        for body in BODIES:
            for move in MOVES:
                if any(sums_of(move, body[0][at] + (1,))[3] <= 0 for face in body[1] for at in face):
                    refused(self, Behind, faces_seen, body, move)
                    continue
                expected = [tuple(spot(*sums_of(move, body[0][at] + (1,))) for at in face) for face in body[1]]
                told = faces_seen(body, move)
                self.assertIs(type(told), list)
                self.assertEqual(told, expected)
                for face in told:
                    self.assertIs(type(face), tuple)
                    self.assertTrue(all(is_tuple_of_whole(corner, 4) for corner in face))

    def test_behind_where_a_corner_of_a_face_is(self):
        for depth in [0, -1]:
            for at in range(3):
                corners = [(0, 0, 1), (4, 0, 1), (0, 4, 1), (1, 1, 1), (2, 2, 2), (3, 1, 1)]
                corners[at + 3] = (1, 1, depth)
                refused(self, Behind, faces_seen, (corners, [(0, 1, 2), (3, 4, 5)]), look_from(8))
                refused(self, Behind, faces_seen, (corners, [(3, 4, 5), (0, 1, 2)]), look_from(8))

    def test_a_corner_that_no_face_has_may_be_behind(self):
        for depth in [0, -5]:
            body = ([(9, 9, depth), (0, 0, 1), (4, 0, 1), (0, 4, 1), (9, 9, depth)], [(1, 2, 3)])
            self.assertEqual(faces_seen(body, look_from(2)), [((0, 0, 0, 1), (8, 0, 0, 1), (0, 8, 0, 1))])
            self.assertEqual(faces_seen(([(9, 9, depth)], []), look_from(2)), [])

    def test_of_a_closed_body_the_areas_come_to_nought(self):
        for body in [TETRAHEDRON, CUBE]:
            for move in [STILL, quarter(0), slant(0, 2, 3), after(look_from(8), shift(-1, 1, 3)), shift(3, 2, 1)]:
                total = (0, 1)
                for face in faces_seen(body, move):
                    total = plus(total, area(face))
                self.assertEqual(total, (0, 1))


class Own(unittest.TestCase):
    def test_what_is_told_is_the_askers_own(self):
        for body in [TETRAHEDRON, CUBE, POINT, TRIANGLE, ODD, FULL]:
            for move in [STILL, MOVES[1], after(look_from(2), shift(0, 0, 9))]:
                asks_again(self, faces_seen, body, move)

    def test_what_is_done_to_a_body_behind_the_call_changes_no_answer(self):
        body = copy.deepcopy(TRIANGLE)
        told = faces_seen(body, STILL)
        body[0].clear()
        body[1].clear()
        self.assertEqual(told, [((0, 0, 1, 1), (4, 0, 1, 1), (0, 4, 1, 1))])


if __name__ == "__main__":
    unittest.main()

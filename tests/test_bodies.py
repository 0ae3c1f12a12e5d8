import collections
import copy
import itertools
import unittest

from onceshade.bodies import check_body, inside_out, is_closed, lacking, parts, together
from onceshade.errors import NoBody, TooMany
from helpers import ANY_THINGS, GREATEST, asks_again, nested, refused
from samples import BODIES, CUBE, FULL, ODD, POINT, TETRAHEDRON, TRIANGLE

CORNERS = [(0, 0, 0), (1, 0, 0), (0, 1, 0), (0, 0, 1)]
FACES = [(0, 1, 2), (3, 2, 1)]
NEVER_WHOLE = [None, True, False, "", "1", [], [1], (), (1,), nested(list, 6, 1), nested(tuple, 6, 1)]


def with_faces(faces, many=24):
    """A body of these faces; where its corners stand does not matter."""
    return ([(at, at * at, 0) for at in range(many)], faces)


def without(body, at):
    return (body[0], body[1][:at] + body[1][at + 1:])


class Checking(unittest.TestCase):
    def test_bodies_are_let_by(self):
        for body in BODIES + [
            ([(0, 0, 0)], []), ([(0, 0, 0)] * 24, []), ([(0, 0, 0)] * 3, [(0, 1, 2)] * 24),
            ([(999999, -999999, 999999)], []), ([(-999999, 999999, -999999)], []), (CORNERS, FACES),
            with_faces([(23, 22, 21), (0, 23, 1)]),
        ]:
            before = copy.deepcopy(body)
            self.assertIsNone(check_body(body))
            self.assertEqual(repr(body), repr(before))

    def test_each_number_of_a_corner_may_stand_anywhere(self):
        for face in itertools.permutations(range(4), 3):
            self.assertIsNone(check_body((CORNERS, [face])))

    def test_numbers_of_corners_and_faces(self):
        refused(self, NoBody, check_body, ([], []))
        refused(self, NoBody, check_body, ([(0, 0, 0)] * 25, []))
        refused(self, NoBody, check_body, ([(0, 0, 0)] * 25, [(0, 1, 2)]))
        refused(self, NoBody, check_body, ([(0, 0, 0)] * 3, [(0, 1, 2)] * 25))
        refused(self, NoBody, check_body, ([], [(0, 1, 2)]))

    def test_coordinates(self):
        for at in range(3):
            for thing in NEVER_WHOLE + [1000000, -1000000, GREATEST, -GREATEST]:
                corner = [0, 0, 0]
                corner[at] = thing
                refused(self, NoBody, check_body, ([tuple(corner)], []))
                refused(self, NoBody, check_body, (CORNERS + [tuple(corner)], FACES))
                refused(self, NoBody, check_body, ([tuple(corner)] + CORNERS, FACES))

    def test_corners_of_another_shape(self):
        for corner in NEVER_WHOLE + [
            0, (0, 0), (0, 0, 0, 0), [0, 0, 0], ((0, 0, 0),), "000", (0, 0, (0,)), [(0, 0, 0)],
        ]:
            refused(self, NoBody, check_body, ([corner], []))
            refused(self, NoBody, check_body, (CORNERS + [corner], FACES))
            refused(self, NoBody, check_body, ([corner] + CORNERS, FACES))

    def test_numbers_in_faces(self):
        for at in range(3):
            for thing in NEVER_WHOLE + [-1, -4, 4, 5, GREATEST, -GREATEST]:
                face = [0, 1, 2]
                face[at] = thing
                refused(self, NoBody, check_body, (CORNERS, [tuple(face)]))
                refused(self, NoBody, check_body, (CORNERS, FACES + [tuple(face)]))
                refused(self, NoBody, check_body, (CORNERS, [tuple(face)] + FACES))

    def test_truths_in_faces_where_they_would_be_unlike(self):
        refused(self, NoBody, check_body, (CORNERS, [(False, 1, 2)]))
        refused(self, NoBody, check_body, (CORNERS, [(0, True, 2)]))
        refused(self, NoBody, check_body, (CORNERS, [(3, 2, True)]))

    def test_a_corner_twice_in_a_face(self):
        for face in [(0, 0, 1), (1, 0, 0), (0, 1, 0), (2, 2, 2), (3, 1, 3)]:
            refused(self, NoBody, check_body, (CORNERS, [face]))

    def test_faces_of_another_shape(self):
        for face in NEVER_WHOLE + [0, (0, 1), (0, 1, 2, 3), [0, 1, 2], ((0, 1, 2),), "012", [(0, 1, 2)]]:
            refused(self, NoBody, check_body, (CORNERS, [face]))
            refused(self, NoBody, check_body, (CORNERS, FACES + [face]))
            refused(self, NoBody, check_body, (CORNERS, [face] + FACES))

    def test_lists_and_tuples_changed_about(self):
        for thing in [
            [CORNERS, FACES], (tuple(CORNERS), FACES), (CORNERS, tuple(FACES)), (tuple(CORNERS), tuple(FACES)),
            ([list(corner) for corner in CORNERS], FACES), (CORNERS, [list(face) for face in FACES]),
            (CORNERS, ()), ((), []), [CORNERS, []],
        ]:
            refused(self, NoBody, check_body, thing)

    def test_parts_left_out_or_put_in(self):
        for thing in [
            (CORNERS,), (FACES,), CORNERS, (CORNERS, FACES, []), (CORNERS, FACES, FACES), (CORNERS, None),
            (None, FACES), (CORNERS, 0), (0, FACES), (CORNERS, "faces"), ("corners", FACES), (CORNERS, True), ((CORNERS, FACES),),
        ]:
            refused(self, NoBody, check_body, thing)

    def test_any_thing(self):
        for thing in ANY_THINGS:
            refused(self, NoBody, check_body, thing)
            refused(self, NoBody, check_body, (thing, FACES))
            if thing != []:
                refused(self, NoBody, check_body, (CORNERS, thing))
            # A whole tuple of three is a corner, a small number a coordinate or the number of a corner.
            if thing != (1, 2, 3):
                refused(self, NoBody, check_body, ([thing], []))
                refused(self, NoBody, check_body, (CORNERS, [thing]))
            if type(thing) is not int or abs(thing) > 999999:
                refused(self, NoBody, check_body, ([(0, 0, thing)], []))
                refused(self, NoBody, check_body, (CORNERS, [(0, 3, thing)]))


class Lacking(unittest.TestCase):
    def test_one_face_lacks_its_three_sides(self):
        self.assertEqual(lacking(TRIANGLE), [(0, 1), (1, 2), (2, 0)])
        self.assertEqual(lacking(with_faces([(5, 3, 9)])), [(3, 9), (5, 3), (9, 5)])

    def test_a_side_oftener_than_its_fellow(self):
        self.assertEqual(lacking(with_faces([(0, 1, 2)] * 2)), [(0, 1), (0, 1), (1, 2), (1, 2), (2, 0), (2, 0)])
        self.assertEqual(lacking(with_faces([(0, 1, 2)] * 3 + [(0, 2, 1)])), sorted([(0, 1), (1, 2), (2, 0)] * 2))
        self.assertEqual(
            lacking(with_faces([(0, 1, 2), (0, 1, 3), (0, 1, 4), (1, 0, 5)])),
            [(0, 1), (0, 1), (0, 5), (1, 2), (1, 3), (1, 4), (2, 0), (3, 0), (4, 0), (5, 1)],
        )

    def test_two_faces_that_share_a_side(self):
        self.assertEqual(lacking(with_faces([(0, 1, 2), (1, 0, 3)])), [(0, 3), (1, 2), (2, 0), (3, 1)])
        self.assertEqual(lacking(with_faces([(0, 1, 2), (0, 1, 3)])), [(0, 1), (0, 1), (1, 2), (1, 3), (2, 0), (3, 0)])

    def test_closed_bodies(self):
        for body in [TETRAHEDRON, CUBE, POINT, with_faces([]), with_faces([(0, 1, 2), (0, 2, 1)]),
                     with_faces([(0, 1, 2), (2, 1, 0)] * 12), with_faces(TETRAHEDRON[1] * 6)]:
            self.assertEqual(lacking(body), [])
            self.assertIs(is_closed(body), True)

    def test_one_face_left_out(self):
        for body in [TETRAHEDRON, CUBE]:
            for at, (i, j, k) in enumerate(body[1]):
                left = without(body, at)
                self.assertEqual(lacking(left), sorted([(j, i), (k, j), (i, k)]))
                self.assertIs(is_closed(left), False)

    def test_one_face_twice(self):
        for body in [TETRAHEDRON, CUBE]:
            for i, j, k in body[1]:
                more = (body[0], body[1] + [(i, j, k)])
                self.assertEqual(lacking(more), sorted([(i, j), (j, k), (k, i)]))
                self.assertIs(is_closed(more), False)

    def test_one_face_turned(self):
        for body in [TETRAHEDRON, CUBE]:
            for at, (i, j, k) in enumerate(body[1]):
                faces = list(body[1])
                faces[at] = (i, k, j)
                self.assertEqual(lacking((body[0], faces)), sorted([(i, k), (k, j), (j, i)] * 2))
                self.assertIs(is_closed((body[0], faces)), False)

    def test_as_counted(self):
        for body in BODIES + [with_faces(list(itertools.permutations(range(4), 3))[:many]) for many in range(25)]:
            counts = collections.Counter(
                pair for i, j, k in body[1] for pair in [(i, j), (j, k), (k, i)]
            )
            expected = sorted(
                pair for pair in counts for time in range(max(0, counts[pair] - counts[(pair[1], pair[0])]))
            )
            self.assertEqual(lacking(body), expected)
            self.assertIs(is_closed(body), not expected)


class InsideOut(unittest.TestCase):
    def test_faces_are_turned(self):
        self.assertEqual(inside_out(TRIANGLE), (TRIANGLE[0], [(0, 2, 1)]))
        self.assertEqual(inside_out(TETRAHEDRON), (TETRAHEDRON[0], [(0, 2, 1), (0, 1, 3), (0, 3, 2), (1, 2, 3)]))
        self.assertEqual(inside_out(POINT), POINT)

    def test_twice_is_the_same_again(self):
        for body in BODIES:
            once = inside_out(body)
            self.assertEqual(inside_out(once), body)
            self.assertIsNone(check_body(once))

    def test_a_closed_body_stays_closed(self):
        for body in BODIES:
            self.assertIs(is_closed(inside_out(body)), is_closed(body))
            self.assertEqual(lacking(inside_out(body)), sorted((j, i) for i, j in lacking(body)))


class Parts(unittest.TestCase):
    def test_no_faces_no_parts(self):
        self.assertEqual(parts(POINT), [])

    def test_one_face_is_a_part(self):
        self.assertEqual(parts(TRIANGLE), [[0]])

    def test_joined_by_a_side_and_by_its_fellow(self):
        self.assertEqual(parts(with_faces([(0, 1, 2), (0, 1, 3)])), [[0, 1]])
        self.assertEqual(parts(with_faces([(0, 1, 2), (1, 0, 3)])), [[0, 1]])
        self.assertEqual(parts(with_faces([(0, 1, 2), (3, 2, 1)])), [[0, 1]])
        self.assertEqual(parts(with_faces([(0, 1, 2), (1, 2, 3)])), [[0, 1]])
        self.assertEqual(parts(with_faces([(0, 1, 2), (2, 0, 3)])), [[0, 1]])
        self.assertEqual(parts(with_faces([(0, 1, 2), (3, 0, 2)])), [[0, 1]])

    def test_corners_alone_do_not_join(self):
        self.assertEqual(parts(with_faces([(0, 1, 2), (2, 3, 4)])), [[0], [1]])
        self.assertEqual(parts(with_faces([(0, 1, 2), (0, 3, 4), (1, 5, 6), (2, 7, 8)])), [[0], [1], [2], [3]])

    def test_alike_faces_are_of_one_part(self):
        self.assertEqual(parts(with_faces([(0, 1, 2), (5, 6, 7), (0, 1, 2)])), [[0, 2], [1]])

    def test_a_face_that_joins_two_others(self):
        self.assertEqual(parts(with_faces([(0, 1, 2), (3, 4, 5), (2, 1, 6), (6, 2, 3), (3, 2, 4)])), [[0, 1, 2, 3, 4]])

    def test_a_long_row_in_any_order(self):
        row = [(at, at + 1, at + 2) for at in range(22)]
        self.assertEqual(parts(with_faces(row)), [list(range(22))])
        self.assertEqual(parts(with_faces(row[::-1])), [list(range(22))])
        self.assertEqual(parts(with_faces(row[::2] + row[1::2])), [list(range(22))])
        self.assertEqual(parts(with_faces(row[1::2] + row[::2][::-1])), [list(range(22))])

    def test_a_row_that_is_broken(self):
        row = [(at, at + 1, at + 2) for at in range(22)]
        self.assertEqual(parts(with_faces(row[:9] + row[11:])), [list(range(9)), list(range(9, 20))])
        mixed = [face for pair in zip(row[:9], row[13:22]) for face in pair]
        self.assertEqual(parts(with_faces(mixed)), [list(range(0, 18, 2)), list(range(1, 18, 2))])

    def test_whole_bodies(self):
        self.assertEqual(parts(TETRAHEDRON), [[0, 1, 2, 3]])
        self.assertEqual(parts(CUBE), [list(range(12))])
        self.assertEqual(parts(together(CUBE, TETRAHEDRON)), [list(range(12)), [12, 13, 14, 15]])
        self.assertEqual(parts(FULL), [list(range(24))])

    def test_as_found_by_merging(self):
        faces = list(itertools.combinations(range(8), 3))
        for step in range(1, 12):
            body = with_faces(faces[::step][:24])
            groups = [{at} for at in range(len(body[1]))]
            for one, other in itertools.combinations(range(len(body[1])), 2):
                if len(set(body[1][one]) & set(body[1][other])) >= 2:
                    first = next(group for group in groups if one in group)
                    second = next(group for group in groups if other in group)
                    if first is not second:
                        groups.remove(second)
                        first |= second
            self.assertEqual(parts(body), sorted(sorted(group) for group in groups))


class Together(unittest.TestCase):
    def test_counted_on(self):
        self.assertEqual(
            together(TRIANGLE, TETRAHEDRON),
            (TRIANGLE[0] + TETRAHEDRON[0], [(0, 1, 2), (3, 4, 5), (3, 6, 4), (3, 5, 6), (4, 6, 5)]),
        )
        self.assertEqual(together(POINT, TRIANGLE), (POINT[0] + TRIANGLE[0], [(1, 2, 3)]))
        self.assertEqual(together(TRIANGLE, POINT), (TRIANGLE[0] + POINT[0], [(0, 1, 2)]))

    def test_alike_corners_are_not_put_together(self):
        self.assertEqual(together(POINT, POINT), (POINT[0] * 2, []))

    def test_a_body_with_itself(self):
        told = together(CUBE, CUBE)
        self.assertEqual(told[0], CUBE[0] * 2)
        self.assertEqual(told[1], CUBE[1] + [(i + 8, j + 8, k + 8) for i, j, k in CUBE[1]])
        self.assertIsNone(check_body(told))
        self.assertIs(is_closed(told), True)

    def test_just_as_many_as_may_be(self):
        for one, other in [(23, 1), (1, 23), (12, 12), (20, 4)]:
            told = together(([(1, 2, 3)] * one, []), ([(4, 5, 6)] * other, []))
            self.assertEqual(told, ([(1, 2, 3)] * one + [(4, 5, 6)] * other, []))
        for one, other in [(24, 0), (0, 24), (12, 12), (23, 1)]:
            told = together(with_faces([(0, 1, 2)] * one, 3), with_faces([(0, 1, 2)] * other, 3))
            self.assertEqual(told[1], [(0, 1, 2)] * one + [(3, 4, 5)] * other)
            self.assertIsNone(check_body(told))
        told = together(with_faces([(0, 1, 2)] * 12, 12), with_faces([(0, 1, 2)] * 12, 12))
        self.assertIsNone(check_body(told))

    def test_one_too_many(self):
        refused(self, TooMany, together, ([(0, 0, 0)] * 24, []), POINT)
        refused(self, TooMany, together, POINT, ([(0, 0, 0)] * 24, []))
        refused(self, TooMany, together, ([(0, 0, 0)] * 12, []), ([(0, 0, 0)] * 13, []))
        refused(self, TooMany, together, with_faces([(0, 1, 2)] * 24, 3), TRIANGLE)
        refused(self, TooMany, together, TRIANGLE, with_faces([(0, 1, 2)] * 24, 3))
        refused(self, TooMany, together, with_faces([(0, 1, 2)] * 13, 3), with_faces([(0, 1, 2)] * 12, 3))
        refused(self, TooMany, together, FULL, FULL)


class Own(unittest.TestCase):
    def test_what_is_told_is_the_askers_own(self):
        for body in BODIES + [with_faces([(0, 1, 2), (5, 6, 7), (0, 1, 2), (9, 10, 11)], 12)]:
            for function in [lacking, is_closed, inside_out, parts]:
                asks_again(self, function, body)
        for one, other in itertools.product([TETRAHEDRON, CUBE, POINT, TRIANGLE, ODD], repeat=2):
            asks_again(self, together, one, other)

    def test_what_is_done_to_a_body_behind_the_call_changes_no_answer(self):
        for function in [inside_out, parts, lacking]:
            body = copy.deepcopy(TETRAHEDRON)
            told = function(body)
            before = copy.deepcopy(told)
            body[0].clear()
            body[1].clear()
            self.assertEqual(told, before)
            self.assertEqual(function(TETRAHEDRON), before)
        one, other = copy.deepcopy(POINT), copy.deepcopy(TRIANGLE)
        told = together(one, other)
        before = copy.deepcopy(told)
        for part in one + other:
            part.append((9, 9, 9))
        self.assertEqual(told, before)


if __name__ == "__main__":
    unittest.main()

import itertools
import random
import unittest
from fractions import Fraction

from onceshade.depths import depth_at, seen_at
from onceshade.errors import NoFace, NoLight
from onceshade.moves import after, faces_seen, look_from, shift
from onceshade.shadows import in_shadow, place_at, ray_meets
from onceshade.spots import spot
from helpers import GREATEST, asks_again, is_tuple_of_whole, refused
from reckon import depth_reckoned, meets_reckoned, seen_reckoned, standing
from samples import AWAY, BOARD_FACES, EDGE_ON, GREAT_FACES, HERE, NO_LIGHTS, PART_FACES, SLANTED, SPOTS

# In the flat where the third coordinate is 0.
FLAT = ((0, 0, 0, 1), (6, 0, 0, 1), (0, 6, 0, 1))
ORIGIN = (0, 0, 0, 1)
# With all spots in one line, at one place, or two at one place.
LINES = [
    ((0, 0, 0, 1), (2, 2, 2, 1), (6, 6, 6, 1)), ((1, 1, 1, 2), (1, 1, 1, 3), (5, 5, 5, 1)), (ORIGIN,) * 3,
    (ORIGIN, ORIGIN, (5, 0, 0, 1)), (ORIGIN, (5, 0, 0, 1), ORIGIN), ((5, 0, 0, 1), ORIGIN, ORIGIN),
    ((0, 0, 0, 1), (GREATEST, 1, 2, 1), (GREATEST, 1, 2, 2)),
]
WAYS = [way for way in itertools.product((-2, -1, 0, 1, 2), repeat=3) if way != (0, 0, 0)]


def below(x, y):
    """A spot that is 1 nearer than the flat FLAT."""
    return (x, y, -1, 1)


class Rays(unittest.TestCase):
    def meets(self, expected, start, light, face):
        """The same of the face told from each corner on, and turned the other way."""
        a, b, c = face
        for told in ((a, b, c), (b, c, a), (c, a, b), (a, c, b), (c, b, a), (b, a, c)):
            self.assertIs(ray_meets(start, light, told), expected, (start, light, told))

    def test_within(self):
        for x, y in [(1, 1), (2, 2), (1, 4), (4, 1), (2, 3)]:
            self.meets(True, below(x, y), (0, 0, 1), FLAT)
            self.meets(True, (x, y, 5, 1), (0, 0, -3), FLAT)
            self.meets(True, (0, 0, -1, 1), (x, y, 1), FLAT)

    def test_outside(self):
        for x, y in [(-1, 1), (1, -1), (4, 3), (7, 0), (0, 7), (-1, -1), (-1, 7), (7, -1)]:
            self.meets(False, below(x, y), (0, 0, 1), FLAT)
            self.meets(False, (0, 0, -1, 1), (x, y, 1), FLAT)

    def test_rim_and_corners(self):
        for x, y in [(0, 3), (3, 0), (3, 3), (1, 5), (0, 0), (6, 0), (0, 6)]:
            self.meets(True, below(x, y), (0, 0, 1), FLAT)
            self.meets(True, (x, y, GREATEST, 1), (0, 0, -1), FLAT)

    def test_next_to_the_rim(self):
        for x, y in [(0, 3), (3, 0), (3, 3)]:
            many = 10 ** 11
            outward = {(0, 3): (-1, 0), (3, 0): (0, -1), (3, 3): (1, 0)}[x, y]
            beside = (many * x + outward[0], many * y + outward[1], -1, many)
            inside = (many * x - outward[0], many * y - outward[1], -1, many)
            self.meets(False, beside, (0, 0, 1), FLAT)
            self.meets(True, inside, (0, 0, 1), FLAT)

    def test_away(self):
        for x, y in [(1, 1), (3, 3), (0, 0)]:
            self.meets(False, below(x, y), (0, 0, -1), FLAT)
            self.meets(False, (x, y, 1, 1), (0, 0, 1), FLAT)

    def test_the_spot_itself_is_not_met(self):
        for x, y in [(1, 1), (3, 3), (0, 3), (0, 0), (6, 0), (9, 9), (-1, -1)]:
            for way in WAYS:
                self.meets(False, (x, y, 0, 1), way, FLAT)

    def test_beside_the_flat_and_in_it(self):
        for way in [(1, 0, 0), (0, -1, 0), (1, 1, 0), (-5, 2, 0)]:
            self.meets(False, (-3, 1, 0, 1), way, FLAT)
            self.meets(False, (1, 1, 0, 1), way, FLAT)
            self.meets(False, (1, 1, -1, 1), way, FLAT)
            self.meets(False, (1, 1, 1, 1), way, FLAT)
        # In a flat that is not level: straight through the middle of the face, and along a side of it.
        self.meets(False, (9, 9, -9, 1), (-1, -1, 1), ((0, 0, 0, 1), (6, 0, -6, 1), (0, 6, 0, 1)))
        self.meets(False, (-1, 0, 0, 1), (1, 0, 0), ((0, 0, 0, 1), (6, 0, 0, 1), (0, 6, 5, 1)))

    def test_as_far_as_one_likes(self):
        self.meets(True, (1, 1, -GREATEST, 1), (0, 0, 1), FLAT)
        self.meets(True, (1 - GREATEST, 1, -GREATEST, 1), (1, 0, 1), FLAT)
        self.meets(False, (8 - GREATEST, 1, -GREATEST, 1), (1, 0, 1), FLAT)

    def test_in_parts_too(self):
        # Less than once the light's numbers lead to the face.
        self.meets(True, (1, 1, -1, 1), (0, 0, GREATEST), FLAT)
        self.meets(True, (0, 0, -1, 2), (5, 5, 1), FLAT)
        self.meets(False, (0, 0, -1, 1), (5, 5, 1), FLAT)

    def test_spots_with_unlike_last_numbers(self):
        face = ((0, 0, 0, 1), (18, 0, 0, 3), (0, 42, 0, 7))
        for x, y, expected in [(0, 3, True), (3, 3, True), (1, 1, True), (4, 3, False), (-1, 0, False), (6, 0, True)]:
            for many in (1, 2, 5, 9):
                self.meets(expected, spot(many * x, many * y, -1, many), (0, 0, 1), face)
        tall = ((1, 1, 1, 5), (7, 0, 2, 2), (0, 9, -3, 4))
        for start in SPOTS:
            for way in WAYS:
                self.meets(meets_reckoned(start, way, tall), start, way, tall)

    def test_a_face_edge_on_from_the_front_is_met_from_elsewhere(self):
        upright = ((0, 0, 0, 1), (4, 0, 0, 1), (0, 0, 4, 1))
        self.meets(True, (1, -3, 1, 1), (0, 1, 0), upright)
        self.meets(False, (1, -3, 1, 1), (0, -1, 0), upright)
        self.meets(False, (1, -3, 1, 1), (0, 0, 1), upright)

    def test_faces_with_all_spots_in_one_line(self):
        for face in LINES:
            for way in WAYS:
                for start in [(0, 0, -5, 1), (1, 1, -1, 1), (2, 2, 2, 1), (3, 0, -1, 1), ORIGIN, (-2, 3, 1, 7)]:
                    self.assertIs(ray_meets(start, way, face), False)

    def test_as_reckoned(self):
        chance = random.Random(29)
        found = []
        for step in range(4000):
            face = tuple(
                spot(*[chance.randint(-3, 3) for at in range(3)], chance.randint(1, 3)) for corner in range(3)
            )
            start = spot(*[chance.randint(-3, 3) for at in range(3)], chance.randint(1, 3))
            light = chance.choice(WAYS)
            expected = meets_reckoned(start, light, face)
            self.assertIs(ray_meets(start, light, face), expected, (start, light, face))
            found.append(expected)
        self.assertGreater(found.count(True), 200)

    def test_great_numbers(self):
        chance = random.Random(30)
        found = []
        for face in GREAT_FACES + [tuple(SPOTS[at:at + 3]) for at in range(8)]:
            a, b, c = [standing(corner) for corner in face]
            for step in range(20):
                start = chance.choice(SPOTS)
                # Towards the middle of the face, from there on away from it, or elsewhere.
                middle = [(p + q + r) / 3 - s for p, q, r, s in zip(a, b, c, standing(start))]
                many = Fraction(1)
                for number in middle:
                    many *= number.denominator
                towards = tuple(int(number * many) for number in middle)
                for light in (towards, tuple(-number for number in towards), chance.choice(WAYS)):
                    if light != (0, 0, 0):
                        expected = meets_reckoned(start, light, face)
                        self.assertIs(ray_meets(start, light, face), expected)
                        found.append(expected)
        self.assertGreater(found.count(True), 50)
        self.assertGreater(found.count(False), 50)

    def test_what_is_no_light_is_refused(self):
        for thing in NO_LIGHTS:
            # Also of faces that could not be met.
            for face in [FLAT, LINES[0], LINES[2], SLANTED]:
                refused(self, NoLight, ray_meets, below(1, 1), thing, face)
                refused(self, NoLight, ray_meets, ORIGIN, thing, face)


class Places(unittest.TestCase):
    def test_examples(self):
        self.assertEqual(place_at(HERE, (1, 1)), (1, 1, 1, 1))
        self.assertEqual(place_at(HERE, (-5, 9)), (-5, 9, 1, 1))
        self.assertEqual(place_at(SLANTED, (3, 1)), (3, 1, 2, 1))
        self.assertEqual(place_at(((0, 0, 1, 1), (4, 0, 2, 1), (0, 4, 1, 1)), (2, 1)), (4, 2, 3, 2))
        self.assertEqual(place_at(((0, 0, 1, 1), (0, 4, 1, 1), (4, 0, 2, 1)), (2, 1)), (4, 2, 3, 2))
        self.assertEqual(place_at(((0, 0, 1, 1), (4, 0, 2, 1), (0, 4, 1, 1)), (0, 0)), (0, 0, 1, 1))

    def test_lowest_terms(self):
        # All of the four are divided, the depth alone not.
        self.assertEqual(place_at(((0, 0, 1, 2), (4, 0, 1, 2), (0, 4, 1, 2)), (2, 4)), (4, 8, 1, 2))
        self.assertEqual(place_at(((0, 0, 0, 1), (4, 0, 0, 1), (0, 4, 0, 1)), (0, 0)), (0, 0, 0, 1))
        self.assertEqual(place_at(((0, 0, 0, 1), (4, 0, 0, 1), (0, 4, 0, 1)), (6, 4)), (6, 4, 0, 1))

    def test_as_reckoned(self):
        for face in BOARD_FACES:
            for dot in [(0, 0), (1, 1), (15, 0), (3, 11), (-7, 40), (GREATEST, -GREATEST)]:
                told = place_at(face, dot)
                self.assertTrue(is_tuple_of_whole(told, 4))
                self.assertEqual(standing(told), (dot[0], dot[1], depth_reckoned(face, dot)))
                self.assertEqual(told, spot(*told))

    def test_the_depth_there_is_the_faces(self):
        for face in PART_FACES:
            for dot in [(0, 0), (5, 3), (-4, 20)]:
                x, y, z, w = place_at(face, dot)
                self.assertEqual(Fraction(z, w), Fraction(*depth_at(face, dot)))

    def test_edge_on(self):
        for face in EDGE_ON:
            for dot in [(0, 0), (3, 3), (-1, 5)]:
                refused(self, NoFace, place_at, face, dot)


class Shadows(unittest.TestCase):
    # Over the dots of HERE, nearer than it by 3.
    LID = ((0, 0, -2, 1), (4, 0, -2, 1), (0, 4, -2, 1))

    def test_in_shadow_and_not(self):
        # HERE is seen at its dots where the small lid, nearer and further right, is not.
        far = ((0, 0, 5, 1), (9, 0, 5, 1), (0, 9, 5, 1))
        lid = ((3, 0, 2, 1), (6, 0, 2, 1), (3, 3, 2, 1))
        for faces in ([far, lid], [lid, far]):
            self.assertEqual(seen_at(faces, (1, 0)), faces.index(far))
            self.assertIs(in_shadow(faces, (1, 0), (1, 0, -1)), True)
            self.assertIs(in_shadow(faces, (0, 0), (1, 0, -1)), True)
            self.assertIs(in_shadow(faces, (0, 0), (0, 0, -1)), False)
            self.assertIs(in_shadow(faces, (0, 4), (1, 0, -1)), False)
            # The lid itself has nothing ahead of it, but the far face behind it.
            self.assertIs(in_shadow(faces, (4, 0), (0, 0, -1)), False)
            self.assertIs(in_shadow(faces, (4, 0), (0, 0, 1)), True)
            self.assertIs(in_shadow(faces, (4, 0), (9, 9, 1)), False)

    def test_rim_of_the_lid_shades(self):
        far = ((0, 0, 5, 1), (90, 0, 5, 1), (0, 90, 5, 1))
        lid = ((8, 0, 2, 1), (12, 0, 2, 1), (8, 4, 2, 1))
        self.assertIs(in_shadow([far, lid], (5, 0), (1, 0, -1)), True)
        self.assertIs(in_shadow([far, lid], (4, 0), (1, 0, -1)), False)
        self.assertIs(in_shadow([far, lid], (5, 4), (1, 0, -1)), True)
        self.assertIs(in_shadow([far, lid], (5, 5), (1, 0, -1)), False)

    def test_none_is_seen(self):
        for faces in ([], [HERE], [EDGE_ON[0]], [HERE, EDGE_ON[3]]):
            self.assertIsNone(in_shadow(faces, (9, 9), (0, 0, 1)))
        self.assertIsNone(in_shadow([], (0, 0), (1, 2, 3)))

    def test_the_face_seen_does_not_stand_in_its_own_way(self):
        for light in WAYS:
            self.assertIs(in_shadow([HERE], (1, 1), light), False)
            self.assertIs(in_shadow([SLANTED], (1, 1), light), False)
        for face in BOARD_FACES:
            for dot in itertools.product(range(0, 16, 5), repeat=2):
                told = in_shadow([face], dot, (1, -2, 3))
                self.assertIs(told, None if seen_reckoned([face], dot) is None else False)

    def test_another_face_at_the_same_place(self):
        # It begins on that one too: the spot itself is not met.
        for light in WAYS:
            self.assertIs(in_shadow([HERE, HERE], (1, 1), light), False)
            self.assertIs(in_shadow([HERE, AWAY, HERE], (1, 1), light), False)
        # One that only crosses it there.
        crossing = ((0, 0, 0, 1), (4, 0, 4, 1), (0, 4, 0, 1))
        for light in WAYS:
            self.assertIs(in_shadow([HERE, crossing], (1, 1), light), False)

    def test_a_face_that_does_not_have_the_dot_shades_too(self):
        upright = ((3, 0, -9, 1), (3, 9, -9, 1), (3, 0, 9, 1))
        self.assertIs(in_shadow([HERE, upright], (1, 1), (1, 0, 0)), True)
        self.assertIs(in_shadow([upright, HERE], (1, 1), (1, 0, 0)), True)
        self.assertIs(in_shadow([upright, HERE], (1, 1), (-1, 0, 0)), False)

    def test_a_face_of_a_lesser_and_of_a_greater_number(self):
        far = ((0, 0, 5, 1), (9, 0, 5, 1), (0, 9, 5, 1))
        for faces in ([far, self.LID], [self.LID, far], [LINES[0], self.LID, EDGE_ON[0], far]):
            self.assertIs(in_shadow(faces, (1, 1), (0, 0, 1)), True)
            self.assertIs(in_shadow(faces, (1, 1), (0, 0, -1)), False)

    def test_as_reckoned(self):
        chance = random.Random(31)
        found = []
        for step in range(1000):
            faces = [
                tuple(spot(*[chance.randint(-2, 7) for at in range(3)], chance.randint(1, 2)) for corner in range(3))
                for number in range(chance.randint(1, 6))
            ]
            dot = (chance.randint(0, 3), chance.randint(0, 3))
            light = chance.choice(WAYS)
            seen = seen_reckoned(faces, dot)
            expected = None
            if seen is not None:
                z = depth_reckoned(faces[seen], dot)
                place = (dot[0] * z.denominator, dot[1] * z.denominator, z.numerator, z.denominator)
                expected = any(meets_reckoned(place, light, face) for at, face in enumerate(faces) if at != seen)
            self.assertIs(in_shadow(faces, dot, light), expected)
            found.append(expected)
        for kind in (True, False, None):
            self.assertGreater(found.count(kind), 25)

    def test_of_a_body_seen(self):
        body = ([(0, 0, 3), (8, 0, 3), (0, 8, 3), (2, 2, 1), (4, 2, 1), (2, 4, 1)], [(0, 1, 2), (3, 4, 5)])
        faces = faces_seen(body, after(look_from(4), shift(0, 0, 1)))
        self.assertEqual([seen_at(faces, dot) for dot in ((0, 0), (5, 5))], [0, 1])
        # Spots as told, with their unlike last numbers, are handed in again.
        for dot in itertools.product(range(6), repeat=2):
            for light in WAYS:
                seen = seen_reckoned(faces, dot)
                expected = None
                if seen is not None:
                    expected = meets_reckoned(place_at(faces[seen], dot), light, faces[1 - seen])
                self.assertIs(in_shadow(faces, dot, light), expected)

    def test_no_light_ahead_of_none(self):
        for thing in NO_LIGHTS:
            refused(self, NoLight, in_shadow, [], (0, 0), thing)
            refused(self, NoLight, in_shadow, [HERE], (9, 9), thing)
            refused(self, NoLight, in_shadow, [HERE], (1, 1), thing)
            refused(self, NoLight, in_shadow, [HERE, self.LID], (1, 1), thing)

    def test_what_is_handed_in_stays(self):
        asks_again(self, in_shadow, [HERE, self.LID], (1, 1), (0, 0, 1))
        asks_again(self, in_shadow, [HERE], (9, 9), (0, 0, 1))
        asks_again(self, place_at, HERE, (9, 9))
        asks_again(self, ray_meets, ORIGIN, (0, 0, 1), HERE)


if __name__ == "__main__":
    unittest.main()

import itertools
import math
import unittest

from onceshade.errors import NoLight
from onceshade.lights import lit, step_of
from helpers import GREATEST, is_tuple_of_whole, refused
from samples import NO_LIGHTS

# The face of these looks along the third coordinate: n is (0, 0, 1).
ORIGIN, RIGHT, DOWN = (0, 0, 0), (1, 0, 0), (0, 1, 0)
SIX_FIGURES = 999999


def step_reckoned(a, b, c, light):
    """4 times the cosine, below 0 left out, the rest of it left out."""
    (px, py, pz), (qx, qy, qz) = [[end - start for start, end in zip(a, other)] for other in (b, c)]
    n = (py * qz - pz * qy, pz * qx - px * qz, px * qy - py * qx)
    along = sum(one * other for one, other in zip(n, light))
    if along <= 0:
        return 0
    return math.isqrt(16 * along ** 2 // (sum(one * one for one in n) * sum(one * one for one in light)))


class Steps(unittest.TestCase):
    def test_examples(self):
        self.assertEqual(step_of(ORIGIN, RIGHT, DOWN, (0, 0, 1)), 4)
        self.assertEqual(step_of(ORIGIN, RIGHT, DOWN, (0, 0, 7)), 4)
        # 16 times a half is from 2 times 2 on, and less than 3 times 3.
        self.assertEqual(step_of(ORIGIN, RIGHT, DOWN, (1, 0, 1)), 2)
        self.assertEqual(step_of(ORIGIN, RIGHT, DOWN, (1, 0, 2)), 3)
        self.assertEqual(step_of(ORIGIN, RIGHT, DOWN, (2, 0, 1)), 1)
        self.assertEqual(step_of(ORIGIN, RIGHT, DOWN, (9, 0, 1)), 0)

    def test_the_faces_other_side_is_dark(self):
        for light in [(0, 0, 1), (1, 0, 1), (1, 0, 2), (5, -5, 99)]:
            self.assertGreater(step_of(ORIGIN, RIGHT, DOWN, light), 0)
            self.assertEqual(step_of(ORIGIN, DOWN, RIGHT, light), 0)
            self.assertEqual(step_of(ORIGIN, RIGHT, DOWN, tuple(-number for number in light)), 0)

    def test_light_along_the_face(self):
        for light in [(1, 0, 0), (0, -1, 0), (GREATEST, GREATEST, 0)]:
            self.assertEqual(step_of(ORIGIN, RIGHT, DOWN, light), 0)

    def test_round_the_coordinates(self):
        # As the corners and the light go round, so does what stands straight on the face.
        for a, b, c, light in [
            (ORIGIN, RIGHT, DOWN, (1, 0, 2)), ((1, 2, 3), (4, 4, 5), (1, 7, 9), (-2, 1, 6)),
            ((1, 2, 3), (4, 4, 5), (1, 7, 9), (2, -18, 15)), ((5, 0, 1), (0, 3, 2), (1, 1, 1), (1, 2, 3)),
        ]:
            told = step_of(a, b, c, light)
            turned = [one[1:] + one[:1] for one in (a, b, c, light)]
            self.assertEqual(step_of(*turned), told)
            self.assertEqual(told, step_reckoned(a, b, c, light))
        self.assertEqual(step_of((1, 2, 3), (4, 4, 5), (1, 7, 9), (2, -18, 15)), 4)

    def test_from_whichever_corner(self):
        for light in itertools.product(range(-2, 3), repeat=3):
            if light != (0, 0, 0):
                a, b, c = (1, 2, 3), (4, 4, 5), (1, 7, 9)
                told = step_of(a, b, c, light)
                self.assertEqual(step_of(b, c, a, light), told)
                self.assertEqual(step_of(c, a, b, light), told)

    def test_just_at_and_just_below_each_bound(self):
        for far in (1000, SIX_FIGURES, GREATEST):
            # Step t where t t (x x + far far) is at most 16 far far.
            for step in (1, 2, 3, 4):
                most = math.isqrt((16 - step * step) * far * far // (step * step))
                self.assertEqual(step_of(ORIGIN, RIGHT, DOWN, (most, 0, far)), step)
                self.assertEqual(step_of(ORIGIN, RIGHT, DOWN, (0, -most, far)), step)
                self.assertEqual(step_of(ORIGIN, RIGHT, DOWN, (most + 1, 0, far)), step - 1)
                self.assertEqual(step_of(ORIGIN, RIGHT, DOWN, (0, -most - 1, far)), step - 1)

    def test_on_the_very_bound(self):
        # For 1 and 3 no whole numbers come to it.
        a, b, c = ORIGIN, (-1, -1, -1), (-1, 0, 1)
        self.assertEqual(step_of(a, b, c, (-2, 1, 1)), 2)
        self.assertEqual(step_of(a, b, c, (1, 1, -2)), 2)
        self.assertEqual(step_of(a, b, c, (-1, 2, -1)), 4)
        for great in (10 ** 5, 10 ** 11):
            self.assertEqual(step_of(a, b, c, (great, great, -2 * great)), 2)
            self.assertEqual(step_of(a, b, c, (great, great - 1, -2 * great)), 1)
            self.assertEqual(step_of(a, b, c, (great, great + 1, -2 * great)), 2)
            self.assertEqual(step_of(a, b, c, (-great, 2 * great, -great)), 4)
            self.assertEqual(step_of(a, b, c, (-great, 2 * great, -great - 1)), 3)

    def test_corners_in_one_line(self):
        for corners in [
            ((1, 1, 1),) * 3, ((0, 0, 0), (1, 2, 3), (2, 4, 6)), ((5, 5, 5), (5, 5, 5), (7, 8, 9)),
            ((5, 5, 5), (7, 8, 9), (5, 5, 5)), ((7, 8, 9), (5, 5, 5), (5, 5, 5)),
        ]:
            for light in [(1, 0, 0), (0, 0, -1), (1, 2, 3)]:
                self.assertEqual(step_of(*corners, light), 0)

    def test_all_small_ones(self):
        places = list(itertools.product(range(2), repeat=3))
        lights = [light for light in itertools.product(range(-2, 3), repeat=3) if light != (0, 0, 0)]
        found = set()
        for a, b, c in itertools.product(places, repeat=3):
            for light in lights[::3]:
                told = step_of(a, b, c, light)
                self.assertEqual(told, step_reckoned(a, b, c, light))
                found.add(told)
        self.assertEqual(found, {0, 1, 2, 3, 4})

    def test_great_corners_and_lights(self):
        for most in (SIX_FIGURES, GREATEST):
            a, b, c = (most, -most, most), (-most, most - 1, 0), (5, most, -most)
            for light in [(most, most, -most), (-most, 1, most), (1, 0, 0), (0, GREATEST, 1), (-GREATEST, -5, GREATEST)]:
                for corners in itertools.permutations((a, b, c)):
                    told = step_of(*corners, light)
                    self.assertIs(type(told), int)
                    self.assertEqual(told, step_reckoned(*corners, light))

    def test_what_is_no_light_is_refused(self):
        for thing in NO_LIGHTS:
            refused(self, NoLight, step_of, ORIGIN, RIGHT, DOWN, thing)
            # Also where the corners are in one line.
            refused(self, NoLight, step_of, ORIGIN, ORIGIN, ORIGIN, thing)

    def test_any_two_may_be_nought(self):
        for light in [(1, 0, 0), (0, 1, 0), (0, 0, 1), (-1, 0, 0), (0, -1, 0), (0, 0, -1)]:
            self.assertEqual(step_of(ORIGIN, RIGHT, DOWN, light), 4 if light == (0, 0, 1) else 0)


class Lit(unittest.TestCase):
    def test_each_step(self):
        self.assertEqual(lit((255, 0, 9), 0), (51, 0, 1))
        self.assertEqual(lit((255, 0, 9), 1), (102, 0, 3))
        self.assertEqual(lit((255, 0, 9), 2), (153, 0, 5))
        self.assertEqual(lit((255, 0, 9), 3), (204, 0, 7))
        self.assertEqual(lit((255, 0, 9), 4), (255, 0, 9))

    def test_all_numbers(self):
        for number in range(256):
            for step in range(5):
                told = lit((number, 255 - number, 7), step)
                self.assertTrue(is_tuple_of_whole(told, 3))
                self.assertEqual(
                    told,
                    tuple(math.floor(one * (step + 1) / 5) for one in (number, 255 - number, 7)),
                )

    def test_the_rest_is_left_out(self):
        self.assertEqual(lit((1, 4, 254), 3), (0, 3, 203))


if __name__ == "__main__":
    unittest.main()

import itertools
import math
import unittest
from fractions import Fraction

from onceshade.errors import NoSpot
from onceshade.spots import shifted_side, side, spot
from helpers import GREATEST, is_tuple_of_whole, refused

SPOTS = [
    (0, 0, 0, 1), (0, 0, 5, 1), (4, 0, 0, 1), (0, 4, -3, 1), (4, 4, 9, 1), (-2, 3, 1, 1), (3, -2, 0, 1),
    (1, 2, 5, 1), (2, 4, 1, 2), (3, 6, 1, 3), (1, 1, 0, 2), (-5, 7, 2, 3), (7, 0, 1, 4), (0, -7, 2, 5),
    (GREATEST, GREATEST, 0, 1), (-GREATEST, GREATEST - 1, 3, 2), (GREATEST - 1, -GREATEST, 1, GREATEST - 4),
]
DOTS = list(itertools.product([-3, -1, 0, 1, 2, 4, 7], repeat=2)) + [
    (GREATEST, GREATEST), (-GREATEST, GREATEST), (GREATEST, GREATEST - 1), (0, -GREATEST),
]


def number_at(a, b, px, py):
    """The number that point 6 writes out."""
    ax, ay, az, aw = a
    bx, by, bz, bw = b
    return ax * (by - bw * py) - ay * (bx - bw * px) + aw * (bx * py - by * px)


def sign_of(number):
    return (number > 0) - (number < 0)


def place(a):
    return (Fraction(a[0], a[3]), Fraction(a[1], a[3]))


class Making(unittest.TestCase):
    def test_examples(self):
        self.assertEqual(spot(2, 4, 6, 8), (1, 2, 3, 4))
        self.assertEqual(spot(2, 4, 6, 1), (2, 4, 6, 1))
        self.assertEqual(spot(2, 4, 6, -2), (-1, -2, -3, 1))
        self.assertEqual(spot(-3, 0, 6, -9), (1, 0, -2, 3))
        self.assertEqual(spot(6, 10, 15, 30), (6, 10, 15, 30))

    def test_all_signs(self):
        for numbers in itertools.product(range(-4, 5), repeat=4):
            if numbers[3] == 0:
                continue
            told = spot(*numbers)
            self.assertTrue(is_tuple_of_whole(told, 4))
            self.assertGreaterEqual(told[3], 1)
            self.assertEqual(math.gcd(*told), 1)
            for at in range(3):
                self.assertEqual(Fraction(told[at], told[3]), Fraction(numbers[at], numbers[3]))

    def test_three_noughts_ahead(self):
        for last in [1, -1, 2, -2, 9, -9, GREATEST, -GREATEST]:
            self.assertEqual(spot(0, 0, 0, last), (0, 0, 0, 1))

    def test_contrary_numbers_make_the_same_spot(self):
        for x, y, z, w in itertools.product([-6, -1, 0, 4], [-3, 0, 2], [-5, 0, 8], [-12, -1, 1, 10]):
            self.assertEqual(spot(x, y, z, w), spot(-x, -y, -z, -w))

    def test_many_figures(self):
        self.assertEqual(spot(GREATEST, -GREATEST, GREATEST, -GREATEST), (-1, 1, -1, 1))
        self.assertEqual(spot(999999999998, 4, 2, -999999999996), (-499999999999, -2, -1, 499999999998))
        great = 10 ** 60 + 7
        self.assertEqual(spot(3 * great, 6 * great, -9 * great, 12 * great), (1, 2, -3, 4))
        told = spot(great, great + 1, 0, -great)
        self.assertEqual(told, (-great, -great - 1, 0, great))
        self.assertEqual(spot(*told), told)

    def test_a_told_spot_stays(self):
        for numbers in SPOTS:
            self.assertEqual(spot(*numbers), numbers)

    def test_a_last_number_nought_is_refused(self):
        for numbers in [(0, 0, 0, 0), (1, 2, 3, 0), (0, 0, 1, 0), (-1, 0, 0, 0), (GREATEST, GREATEST, -GREATEST, 0)]:
            refused(self, NoSpot, spot, *numbers)


class Sides(unittest.TestCase):
    def test_a_row_of_dots(self):
        a, b = (0, 0, 7, 1), (4, 0, -2, 1)
        self.assertEqual(side(a, b, (2, 3)), 1)
        self.assertEqual(side(a, b, (2, -3)), -1)
        for dot in [(2, 0), (0, 0), (4, 0), (9, 0), (-5, 0)]:
            self.assertEqual(side(a, b, dot), 0)

    def test_a_slanting_line_of_unlike_last_numbers(self):
        a, b = (1, 1, 0, 2), (7, 9, 0, 2)
        self.assertEqual(side(a, b, (2, 3)), 1)
        self.assertEqual(side(a, b, (2, 2)), -1)
        # From 1, 1 to 2 and a half, 5: each spot is taken with its own last number.
        self.assertEqual(side((1, 1, 0, 1), (5, 10, 1, 2), (2, 4)), 1)
        self.assertEqual(side((1, 1, 0, 1), (5, 10, 1, 2), (2, 3)), -1)

    def test_depths_do_not_matter(self):
        for depth in [-GREATEST, -1, 0, 8]:
            self.assertEqual(side((1, 2, depth, 1), (7, 5, 1, 2), (6, 2)), -1)
            self.assertEqual(side((1, 2, 1, 1), (7, 5, depth, 2), (6, 4)), 1)

    def test_as_the_number_written_out(self):
        for a, b in itertools.product(SPOTS, repeat=2):
            for dot in DOTS:
                told = side(a, b, dot)
                self.assertIs(type(told), int)
                self.assertEqual(told, sign_of(number_at(a, b, dot[0], dot[1])), (a, b, dot))
                self.assertEqual(side(b, a, dot), -told)


class ShiftedSides(unittest.TestCase):
    def test_the_first_step(self):
        self.assertEqual(shifted_side((0, 0, 0, 1), (4, 0, 0, 1), (2, 3)), 1)
        self.assertEqual(shifted_side((0, 0, 0, 1), (4, 0, 0, 1), (2, -3)), -1)
        # Both later steps say 1 here: the first one goes ahead.
        self.assertEqual(shifted_side((0, 4, 0, 1), (4, 0, 0, 1), (0, 0)), -1)
        self.assertEqual(shifted_side((4, 0, 0, 1), (0, 4, 0, 1), (0, 0)), 1)

    def test_the_second_step(self):
        self.assertEqual(shifted_side((0, 4, 0, 1), (0, 0, 0, 1), (0, 2)), 1)
        self.assertEqual(shifted_side((0, 0, 0, 1), (0, 4, 0, 1), (0, 2)), -1)
        # The third step says the contrary here: the second one goes ahead.
        self.assertEqual(shifted_side((4, 4, 0, 1), (0, 0, 0, 1), (2, 2)), 1)
        self.assertEqual(shifted_side((0, 0, 0, 1), (4, 4, 0, 1), (2, 2)), -1)
        # With unlike last numbers: 3 over 4 is below 1.
        self.assertEqual(shifted_side((0, 3, 0, 4), (0, 1, 0, 1), (0, 0)), -1)
        self.assertEqual(shifted_side((0, 1, 0, 1), (0, 3, 0, 4), (0, 0)), 1)

    def test_the_third_step(self):
        self.assertEqual(shifted_side((0, 0, 0, 1), (4, 0, 0, 1), (2, 0)), 1)
        self.assertEqual(shifted_side((4, 0, 0, 1), (0, 0, 0, 1), (2, 0)), -1)
        self.assertEqual(shifted_side((3, 0, 0, 2), (2, 0, 0, 1), (9, 0)), 1)
        self.assertEqual(shifted_side((2, 0, 0, 1), (3, 0, 0, 2), (9, 0)), -1)

    def test_at_an_end(self):
        a, b = (0, 0, 0, 1), (4, 0, 0, 1)
        for dot in [(0, 0), (4, 0), (-3, 0), (8, 0)]:
            self.assertEqual(shifted_side(a, b, dot), 1)
            self.assertEqual(shifted_side(b, a, dot), -1)

    def test_nought_just_where_both_stand_at_one_place(self):
        for a, b in [
            ((1, 2, 5, 1), (1, 2, -5, 1)), ((2, 4, 1, 2), (1, 2, 5, 1)), ((3, 6, 1, 3), (2, 4, 1, 2)),
            ((0, 0, 0, 1), (0, 0, 1, 7)), ((-5, 7, 2, 3), (-5, 7, 2, 3)),
        ]:
            for dot in [(1, 2), (0, 0), (5, -3), (GREATEST, GREATEST)]:
                self.assertEqual(shifted_side(a, b, dot), 0)
                self.assertEqual(shifted_side(b, a, dot), 0)
        for a, b in itertools.product(SPOTS, repeat=2):
            for dot in DOTS:
                self.assertEqual(shifted_side(a, b, dot) == 0, place(a) == place(b), (a, b, dot))

    def test_as_the_side_of_the_dot_moved_by_next_to_nothing(self):
        little = Fraction(1, 10 ** 60)
        for a, b in itertools.product(SPOTS, repeat=2):
            for dot in DOTS:
                told = shifted_side(a, b, dot)
                self.assertIs(type(told), int)
                expected = sign_of(number_at(a, b, dot[0] + little, dot[1] + little * little))
                self.assertEqual(told, expected, (a, b, dot))
                self.assertEqual(shifted_side(b, a, dot), -told)


if __name__ == "__main__":
    unittest.main()

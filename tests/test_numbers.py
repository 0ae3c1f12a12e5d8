import math
import random
import unittest
from fractions import Fraction

from onceshade.errors import NoFraction
from onceshade.numbers import determinant_of_four, fraction, is_less, is_whole, less, plus, times, whole_part
from helpers import GREATEST, is_tuple_of_whole, refused
from reckon import four_rows_reckoned

SAMPLES = [
    (0, 1), (1, 1), (-1, 1), (1, 2), (-1, 2), (2, 3), (-2, 3), (3, 2), (-3, 2), (5, 6), (-5, 6), (7, 1), (-7, 1),
    (GREATEST, 1), (-GREATEST, 1), (1, GREATEST), (-1, GREATEST),
    (GREATEST, GREATEST - 1), (-GREATEST, GREATEST - 1), (GREATEST - 1, GREATEST), (123456789011, 987654321012),
]


def as_pair(value):
    return (value.numerator, value.denominator)


class Whole(unittest.TestCase):
    def test_ints_are_whole_numbers(self):
        for number in [0, 1, -1, GREATEST, -GREATEST, 10 ** 40]:
            self.assertIs(is_whole(number), True)

    def test_truths_and_others_are_none(self):
        for thing in [True, False, None, "1", "", [], [1], (), (1,)]:
            self.assertIs(is_whole(thing), False)


class Determinants(unittest.TestCase):
    def test_four_rows_by_all_orders_of_places(self):
        chance = random.Random(4)
        for step in range(50):
            rows = [tuple(chance.randint(-9, 9) for place in range(4)) for row in range(4)]
            self.assertEqual(determinant_of_four(*rows), four_rows_reckoned(rows))


class Making(unittest.TestCase):
    def test_examples(self):
        self.assertEqual(fraction(6, 4), (3, 2))
        self.assertEqual(fraction(-6, 4), (-3, 2))
        self.assertEqual(fraction(6, -4), (-3, 2))
        self.assertEqual(fraction(-6, -4), (3, 2))
        self.assertEqual(fraction(4, 6), (2, 3))
        self.assertEqual(fraction(8, 2), (4, 1))
        self.assertEqual(fraction(5, 7), (5, 7))

    def test_nought_is_nought_over_one(self):
        for bottom in [1, -1, 2, -2, 17, -17, GREATEST, -GREATEST]:
            self.assertEqual(fraction(0, bottom), (0, 1))

    def test_lowest_terms_for_all_signs(self):
        for top in range(-40, 41):
            for bottom in range(-40, 41):
                if bottom != 0:
                    told = fraction(top, bottom)
                    self.assertTrue(is_tuple_of_whole(told, 2))
                    self.assertEqual(told, as_pair(Fraction(top, bottom)))

    def test_twelve_figures(self):
        for top in [GREATEST, -GREATEST, 999999000000, 123456789012, -864197523084]:
            for bottom in [GREATEST, -GREATEST, 111111111111, -864197523084, 7]:
                told = fraction(top, bottom)
                self.assertEqual(told, as_pair(Fraction(top, bottom)))
                self.assertEqual(math.gcd(*told), 1)
                self.assertGreaterEqual(told[1], 1)

    def test_a_second_number_nought_is_refused(self):
        for top in [0, 1, -1, 5, GREATEST, -GREATEST]:
            refused(self, NoFraction, fraction, top, 0)


class Reckoning(unittest.TestCase):
    def test_examples(self):
        self.assertEqual(plus((1, 2), (1, 3)), (5, 6))
        self.assertEqual(plus((1, 6), (1, 3)), (1, 2))
        self.assertEqual(plus((1, 2), (-1, 2)), (0, 1))
        self.assertEqual(plus((0, 1), (-2, 3)), (-2, 3))
        self.assertEqual(less((1, 2), (1, 3)), (1, 6))
        self.assertEqual(less((1, 3), (1, 2)), (-1, 6))
        self.assertEqual(less((3, 4), (3, 4)), (0, 1))
        self.assertEqual(times((2, 3), (3, 4)), (1, 2))
        self.assertEqual(times((-2, 3), (-3, 2)), (1, 1))
        self.assertEqual(times((-2, 3), (0, 1)), (0, 1))

    def test_all_pairs_of_samples(self):
        for one in SAMPLES:
            for other in SAMPLES:
                with self.subTest(one=one, other=other):
                    first, second = Fraction(*one), Fraction(*other)
                    for told, expected in [
                        (plus(one, other), first + second),
                        (less(one, other), first - second),
                        (times(one, other), first * second),
                    ]:
                        self.assertTrue(is_tuple_of_whole(told, 2))
                        self.assertEqual(told, as_pair(expected))

    def test_told_ones_are_handed_in_again(self):
        total, product = (0, 1), (1, 1)
        expected_total, expected_product = Fraction(0), Fraction(1)
        for step in range(40):
            part = fraction((-1) ** step * (GREATEST - step), 10 ** 11 + 7 * step + 3)
            total, product = plus(total, part), times(product, part)
            expected_total += Fraction(*part)
            expected_product *= Fraction(*part)
            self.assertEqual(total, as_pair(expected_total))
            self.assertEqual(product, as_pair(expected_product))
        self.assertGreater(product[1], 10 ** 300)
        self.assertEqual(fraction(product[0], product[1]), product)
        self.assertEqual(less(total, total), (0, 1))
        self.assertEqual(less(total, product), as_pair(expected_total - expected_product))
        self.assertEqual(times(total, product), as_pair(expected_total * expected_product))
        self.assertIs(is_less(total, product), expected_total < expected_product)
        self.assertIs(is_less(product, total), expected_product < expected_total)
        self.assertEqual(whole_part(total), math.floor(expected_total))
        self.assertEqual(whole_part(product), math.floor(expected_product))


class Comparing(unittest.TestCase):
    def test_both_ways_round(self):
        for one in SAMPLES:
            for other in SAMPLES:
                with self.subTest(one=one, other=other):
                    self.assertIs(is_less(one, other), Fraction(*one) < Fraction(*other))
                    self.assertIs(is_less(other, one), Fraction(*other) < Fraction(*one))

    def test_alike_ones(self):
        for one in SAMPLES:
            self.assertIs(is_less(one, one), False)

    def test_hardly_unlike_ones(self):
        one, other = (GREATEST - 1, GREATEST), (GREATEST - 2, GREATEST - 1)
        self.assertIs(is_less(other, one), True)
        self.assertIs(is_less(one, other), False)


class WholePart(unittest.TestCase):
    def test_examples(self):
        for one, expected in [
            ((0, 1), 0), ((1, 2), 0), ((-1, 2), -1), ((7, 2), 3), ((-7, 2), -4), ((5, 1), 5), ((-5, 1), -5),
            ((-1, GREATEST), -1), ((1, GREATEST), 0), ((GREATEST, 1), GREATEST), ((-GREATEST, 2), -(10 ** 12) // 2),
            ((999, 1000), 0), ((-999, 1000), -1), ((-1001, 1000), -2),
        ]:
            with self.subTest(one=one):
                told = whole_part(one)
                self.assertIs(type(told), int)
                self.assertEqual(told, expected)

    def test_it_is_the_greatest_that_is_at_most_the_fraction(self):
        for one in SAMPLES:
            told = whole_part(one)
            self.assertLessEqual(told, Fraction(*one))
            self.assertGreater(told + 1, Fraction(*one))


if __name__ == "__main__":
    unittest.main()

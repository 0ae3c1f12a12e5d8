import itertools
import unittest

from onceshade.coats import coat_at, shares
from onceshade.dots import dots_of, has_dot
from onceshade.errors import NoFace
from onceshade.numbers import plus
from helpers import GREATEST, asks_again, is_tuple_of_whole, refused
from reckon import as_pair, shares_reckoned
from samples import AWAY, BLUE, BOARD_FACES, COATS, EDGE_ON, HERE, SIX

DOTS = list(itertools.product(range(-2, 18), repeat=2))
WOVEN = ("woven", (255, 0, 10), (0, 255, 20), (3, 4, 250))
PICTURE = ("picture", SIX, (0, 0), (6, 0), (0, 6))


def blended(numbers, found):
    total = sum(number * share for number, share in zip(numbers, found))
    return total.numerator // total.denominator


def colour_reckoned(coat, face, dot):
    found = shares_reckoned(face, dot)
    if coat[0] == "plain":
        return coat[1]
    if coat[0] == "woven":
        return tuple(blended(numbers, found) for numbers in zip(*coat[1:]))
    rows = coat[1]
    u, v = [blended(numbers, found) for numbers in zip(*coat[2:])]
    row = rows[0 if v < 0 else v if v < len(rows) else -1]
    return row[0 if u < 0 else u if u < len(row) else -1]


class Shares(unittest.TestCase):
    def test_examples(self):
        self.assertEqual(shares(HERE, (0, 0)), ((1, 1), (0, 1), (0, 1)))
        self.assertEqual(shares(HERE, (1, 0)), ((3, 4), (1, 4), (0, 1)))
        self.assertEqual(shares(HERE, (0, 3)), ((1, 4), (0, 1), (3, 4)))
        self.assertEqual(shares(HERE, (1, 2)), ((1, 4), (1, 4), (1, 2)))
        self.assertEqual(shares(AWAY, (1, 2)), ((1, 4), (1, 2), (1, 4)))

    def test_unlike_last_numbers(self):
        face = ((0, 0, 1, 2), (12, 0, 2, 3), (0, 16, 3, 4))
        self.assertEqual(shares(face, (1, 2)), ((1, 4), (1, 4), (1, 2)))

    def test_they_come_to_1_and_none_is_below_0(self):
        many = 0
        for face in BOARD_FACES:
            for dot in dots_of(face, (16, 16)):
                told = shares(face, dot)
                self.assertIs(type(told), tuple)
                self.assertTrue(all(is_tuple_of_whole(share, 2) for share in told))
                self.assertEqual(plus(plus(told[0], told[1]), told[2]), (1, 1))
                self.assertGreaterEqual(min(top for top, bottom in told), 0)
                self.assertEqual(told, tuple(as_pair(share) for share in shares_reckoned(face, dot)))
                many += 1
        self.assertGreater(many, 500)

    def test_dots_that_the_face_does_not_have_are_refused(self):
        for face in BOARD_FACES:
            for dot in DOTS[::3]:
                if not has_dot(face, dot):
                    refused(self, NoFace, shares, face, dot)
        # On a side, and at a corner.
        refused(self, NoFace, shares, HERE, (2, 2))
        refused(self, NoFace, shares, HERE, (4, 0))

    def test_edge_on_is_refused(self):
        for face in EDGE_ON:
            for dot in [(0, 0), (3, 3), (2, 2), (9, 4), (GREATEST, -GREATEST)]:
                refused(self, NoFace, shares, face, dot)


class Coats(unittest.TestCase):
    def test_plain(self):
        for colour in [(0, 0, 0), (255, 255, 255), (0, 255, 0), (1, 2, 3)]:
            for dot in dots_of(HERE, (4, 4)):
                self.assertEqual(coat_at(("plain", colour), HERE, dot), colour)

    def test_woven(self):
        coat = ("woven", (255, 0, 100), (0, 255, 50), (0, 0, 3))
        self.assertEqual(coat_at(coat, HERE, (0, 0)), (255, 0, 100))
        # 255 * 3 / 4 is 191 and a fourth; 255 / 4 is 63 and three fourths.
        self.assertEqual(coat_at(coat, HERE, (1, 0)), (191, 63, 87))
        self.assertEqual(coat_at(coat, HERE, (1, 2)), (63, 63, 39))
        self.assertEqual(coat_at(coat, HERE, (0, 3)), (63, 0, 27))

    def test_woven_of_alike_colours_is_that_colour(self):
        for colour in [(0, 0, 0), (255, 255, 255), (0, 255, 1)]:
            for face in BOARD_FACES:
                for dot in dots_of(face, (16, 16))[::7]:
                    self.assertEqual(coat_at(("woven", colour, colour, colour), face, dot), colour)

    def test_woven_by_the_order_of_the_corners(self):
        for order in itertools.permutations(range(3)):
            face = tuple(HERE[at] for at in order)
            coat = ("woven",) + tuple(WOVEN[1 + at] for at in order)
            self.assertEqual(coat_at(coat, face, (1, 2)), coat_at(WOVEN, HERE, (1, 2)))

    def test_by_a_picture(self):
        for x, y in dots_of(HERE, (4, 4)):
            # u is 6 times x fourths, v 6 times y fourths.
            self.assertEqual(coat_at(PICTURE, HERE, (x, y)), (y * 6 // 4, x * 6 // 4, 200))
        self.assertEqual(coat_at(("picture", [[BLUE]], (0, 0), (9, 9), (-9, -9)), HERE, (1, 1)), BLUE)

    def test_by_a_picture_that_is_not_square(self):
        wide = ("picture", SIX[:2], (0, 0), (8, 0), (0, 8))
        self.assertEqual(coat_at(wide, HERE, (2, 0)), (0, 4, 200))
        self.assertEqual(coat_at(wide, HERE, (0, 2)), (1, 0, 200))
        high = ("picture", [row[:2] for row in SIX], (0, 0), (8, 0), (0, 8))
        self.assertEqual(coat_at(high, HERE, (2, 0)), (0, 1, 200))
        self.assertEqual(coat_at(high, HERE, (0, 2)), (4, 0, 200))

    def test_places_below_0_and_too_great(self):
        for u, v, row, place in [
            (-1, -1, 0, 0), (-GREATEST, GREATEST, 5, 0), (GREATEST, -GREATEST, 0, 5), (6, 6, 5, 5), (5, 5, 5, 5),
            (0, 0, 0, 0), (7, 2, 2, 5), (2, 7, 5, 2), (-1, 3, 3, 0), (3, -1, 0, 3),
        ]:
            coat = ("picture", SIX, (u, v), (u, v), (u, v))
            self.assertEqual(coat_at(coat, HERE, (1, 1)), (row, place, 200))

    def test_parts_below_0_are_taken_as_0(self):
        # A fourth of -1: the greatest whole number that is at most this is -1, which is taken as 0, not as the last.
        coat = ("picture", SIX, (0, 0), (-1, 0), (0, -1))
        self.assertEqual(coat_at(coat, HERE, (1, 0)), (0, 0, 200))
        self.assertEqual(coat_at(coat, HERE, (0, 1)), (0, 0, 200))
        # A fourth below 2 is 1.
        self.assertEqual(coat_at(("picture", SIX, (2, 2), (1, 2), (2, 1)), HERE, (1, 0)), (2, 1, 200))
        self.assertEqual(coat_at(("picture", SIX, (2, 2), (1, 2), (2, 1)), HERE, (0, 1)), (1, 2, 200))

    def test_pictures_of_all_sizes(self):
        for high, wide in itertools.product(range(1, 7), repeat=2):
            rows = [row[:wide] for row in SIX[:high]]
            for places in [((0, 0), (wide, 0), (0, high)), ((-4, 9), (9, -4), (2, 2)), ((7, 7), (0, 1), (1, 0))]:
                coat = ("picture", rows) + places
                for dot in dots_of(HERE, (4, 4)):
                    self.assertEqual(coat_at(coat, HERE, dot), colour_reckoned(coat, HERE, dot))

    def test_as_reckoned(self):
        for face in BOARD_FACES:
            for dot in dots_of(face, (16, 16))[::5]:
                for coat in COATS:
                    told = coat_at(coat, face, dot)
                    self.assertTrue(is_tuple_of_whole(told, 3))
                    self.assertEqual(told, colour_reckoned(coat, face, dot), (coat, face, dot))
                    self.assertTrue(all(0 <= number <= 255 for number in told))

    def test_dots_that_the_face_does_not_have_are_refused(self):
        for coat in COATS:
            for dot in [(2, 2), (4, 0), (0, 4), (9, 9), (-1, 0), (GREATEST, -GREATEST)]:
                refused(self, NoFace, coat_at, coat, HERE, dot)
                refused(self, NoFace, coat_at, coat, AWAY, dot)

    def test_edge_on_is_refused(self):
        for coat in COATS:
            for face in EDGE_ON:
                for dot in [(0, 0), (3, 3), (2, 2)]:
                    refused(self, NoFace, coat_at, coat, face, dot)

    def test_what_is_handed_in_stays(self):
        for coat in COATS:
            asks_again(self, coat_at, coat, HERE, (1, 1))
        asks_again(self, shares, HERE, (1, 1))


if __name__ == "__main__":
    unittest.main()

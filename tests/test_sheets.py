import itertools
import random
import unittest
from fractions import Fraction

from onceshade.coats import coat_at
from onceshade.depths import painted
from onceshade.errors import NoBoard
from onceshade.sheets import colour_through, coloured, sheets_at, through
from helpers import ANY_THINGS, asks_again, is_tuple_of_whole, refused
from reckon import as_pair, depth_reckoned, has_reckoned
from samples import AWAY, BEYOND_HERE, BOARD_FACES, BOARDS, COATS, EDGE_ON, HERE, NO_BOARDS, SLANTED

BLACK, WHITE, GREY = (0, 0, 0), (255, 255, 255), (100, 150, 200)
RED = ("plain", (255, 0, 0))
GREEN = ("plain", (0, 255, 0))


def level(depth):
    return ((0, 0, depth, 1), (8, 0, depth, 1), (0, 8, depth, 1))


def through_reckoned(sheets, behind):
    told = list(behind)
    for colour, cover in sheets[::-1]:
        told = [Fraction(cover, 8) * number + (1 - Fraction(cover, 8)) * there for number, there in zip(colour, told)]
    return tuple(told)


def chance_sheets(chance, many):
    return [(tuple(chance.choice([0, 255, chance.randint(0, 255)]) for part in range(3)), chance.randint(0, 8))
            for sheet in range(many)]


def sheets_reckoned(things, dot):
    met = [
        (depth_reckoned(face, dot), number, (coat_at(coat, face, dot), cover))
        for number, (face, coat, cover) in enumerate(things) if has_reckoned(face, dot)
    ]
    return [sheet for depth, number, sheet in sorted(met)]


class Through(unittest.TestCase):
    def test_no_sheet(self):
        self.assertEqual(through([], GREY), ((100, 1), (150, 1), (200, 1)))
        self.assertEqual(through([], BLACK), ((0, 1), (0, 1), (0, 1)))
        self.assertEqual(through([], ((1, 3), (0, 1), (509, 2))), ((1, 3), (0, 1), (509, 2)))

    def test_one_sheet(self):
        sheet = (255, 0, 10)
        self.assertEqual(through([(sheet, 8)], GREY), ((255, 1), (0, 1), (10, 1)))
        self.assertEqual(through([(sheet, 0)], GREY), ((100, 1), (150, 1), (200, 1)))
        self.assertEqual(through([(sheet, 4)], GREY), ((355, 2), (75, 1), (105, 1)))
        # An eighth of the sheet's number and seven eighths of what is behind.
        self.assertEqual(through([(sheet, 1)], GREY), ((955, 8), (525, 4), (705, 4)))
        self.assertEqual(through([(sheet, 7)], GREY), ((1885, 8), (75, 4), (135, 4)))

    def test_the_nearest_first(self):
        near, far = ((80, 0, 8), 2), ((0, 160, 8), 4)
        # Behind the near one: 50, 155, 104.
        self.assertEqual(through([near, far], GREY), ((115, 2), (465, 4), (80, 1)))
        self.assertEqual(through([far, near], GREY), ((95, 2), (545, 4), (80, 1)))

    def test_what_lets_nothing_by_hides_all_behind_it(self):
        hidden = chance_sheets(random.Random(1), 5)
        self.assertEqual(through([((1, 2, 3), 8)] + hidden, WHITE), ((1, 1), (2, 1), (3, 1)))
        self.assertEqual(through([((9, 9, 9), 0), ((1, 2, 3), 8)] + hidden, WHITE), ((1, 1), (2, 1), (3, 1)))

    def test_fractions_behind(self):
        behind = ((1, 3), (5, 2), (255, 1))
        self.assertEqual(through([((0, 3, 255), 4)], behind), ((1, 6), (11, 4), (255, 1)))
        self.assertEqual(through([((0, 3, 255), 0)], behind), behind)

    def test_as_reckoned(self):
        chance = random.Random(22)
        for many in list(range(6)) + [23, 24]:
            for step in range(20):
                sheets = chance_sheets(chance, many)
                behind = chance.choice([BLACK, WHITE, GREY])
                told = through(sheets, behind)
                self.assertIs(type(told), tuple)
                self.assertTrue(all(is_tuple_of_whole(one, 2) for one in told))
                self.assertEqual(told, tuple(as_pair(Fraction(one)) for one in through_reckoned(sheets, behind)))

    def test_24_sheets_of_an_eighth(self):
        told = through([(BLACK, 1)] * 24, (255, 8, 1))
        self.assertEqual(told[2], (7 ** 24, 8 ** 24))
        self.assertEqual(told[1], (7 ** 24, 8 ** 23))
        self.assertEqual(colour_through([(BLACK, 1)] * 24, (255, 8, 1)), (10, 0, 0))

    def test_two_rows_taken_together(self):
        chance = random.Random(23)
        for many in (0, 1, 2, 7, 24):
            sheets = chance_sheets(chance, many)
            whole = through(sheets, GREY)
            for at in range(many + 1):
                self.assertEqual(through(sheets[:at], through(sheets[at:], GREY)), whole)
            # And sheet by sheet, from the last one on.
            told = GREY
            for sheet in sheets[::-1]:
                told = through([sheet], told)
            self.assertEqual(through([], told), whole)

    def test_what_is_handed_in_stays(self):
        asks_again(self, through, [(WHITE, 3), (BLACK, 5)], GREY)
        asks_again(self, colour_through, [(WHITE, 3), (BLACK, 5)], GREY)


class Colours(unittest.TestCase):
    def test_examples(self):
        self.assertEqual(colour_through([], GREY), GREY)
        self.assertEqual(colour_through([((255, 0, 10), 4)], GREY), (177, 75, 105))
        self.assertEqual(colour_through([((255, 0, 10), 1)], GREY), (119, 131, 176))

    def test_the_ends(self):
        for cover in range(9):
            self.assertEqual(colour_through([(WHITE, cover)], WHITE), WHITE)
            self.assertEqual(colour_through([(BLACK, cover)], BLACK), BLACK)
            self.assertEqual(colour_through([(WHITE, cover)], BLACK), (255 * cover // 8,) * 3)
            self.assertEqual(colour_through([(WHITE, cover)] * 24, WHITE), WHITE)

    def test_rounded_once_at_the_end(self):
        # Of 15 nine sixty-fourths are above 2; but three eighths are below 6, and three eighths of 5 below 2.
        self.assertEqual(colour_through([(BLACK, 5)] * 2, (15, 100, 101)), (2, 14, 14))
        self.assertEqual(colour_through([(BLACK, 1)] * 4, (15, 16, 255)), (8, 9, 149))

    def test_as_reckoned(self):
        chance = random.Random(24)
        for step in range(60):
            sheets = chance_sheets(chance, chance.randint(0, 24))
            told = colour_through(sheets, GREY)
            self.assertTrue(is_tuple_of_whole(told, 3))
            self.assertEqual(
                told,
                tuple(Fraction(one).numerator // Fraction(one).denominator for one in through_reckoned(sheets, GREY)),
            )


class At(unittest.TestCase):
    def test_by_depth(self):
        things = [(level(5), RED, 1), (level(3), GREEN, 2), (level(4), RED, 3), (level(-4), GREEN, 4)]
        self.assertEqual(
            sheets_at(things, (1, 1)),
            [((0, 255, 0), 4), ((0, 255, 0), 2), ((255, 0, 0), 3), ((255, 0, 0), 1)],
        )

    def test_alike_ones_by_number(self):
        things = [(level(3), RED, number) for number in range(9)]
        self.assertEqual(sheets_at(things, (1, 1)), [((255, 0, 0), number) for number in range(9)])
        things = [(level(4), RED, 1), (level(3), RED, 2), (level(4), RED, 3), (level(3), RED, 4), (level(4), RED, 5)]
        self.assertEqual([cover for colour, cover in sheets_at(things, (1, 1))], [2, 4, 1, 3, 5])
        # Depths that are alike at this dot, told by faces of unlike numbers and turned unlike.
        things = [(SLANTED, RED, 1), (level(0), RED, 2), (SLANTED[::-1], RED, 3), (level(1), RED, 4)]
        self.assertEqual([cover for colour, cover in sheets_at(things, (2, 2))], [1, 2, 3, 4])
        self.assertEqual([cover for colour, cover in sheets_at(things, (1, 2))], [1, 3, 2, 4])
        self.assertEqual([cover for colour, cover in sheets_at(things, (3, 2))], [2, 1, 3, 4])

    def test_the_cover_nought_counts(self):
        things = [(level(3), RED, 0), (level(3), GREEN, 0), (level(1), RED, 0)]
        self.assertEqual(sheets_at(things, (1, 1)), [((255, 0, 0), 0), ((255, 0, 0), 0), ((0, 255, 0), 0)])

    def test_only_faces_that_have_the_dot(self):
        things = [(HERE, RED, 1), (BEYOND_HERE, GREEN, 2), (EDGE_ON[0], RED, 3), (EDGE_ON[3], RED, 4), (AWAY, RED, 5)]
        self.assertEqual(sheets_at(things, (1, 1)), [((255, 0, 0), 1), ((255, 0, 0), 5)])
        self.assertEqual(sheets_at(things, (2, 2)), [((0, 255, 0), 2)])
        self.assertEqual(sheets_at(things, (9, 9)), [])
        self.assertEqual(sheets_at([], (1, 1)), [])

    def test_the_colour_of_the_coat_at_the_dot(self):
        coat = ("woven", (255, 0, 100), (0, 255, 50), (0, 0, 3))
        self.assertEqual(sheets_at([(HERE, coat, 8)], (1, 0)), [((191, 63, 87), 8)])
        self.assertEqual(sheets_at([(HERE, coat, 8)], (0, 0)), [((255, 0, 100), 8)])

    def test_as_reckoned(self):
        chance = random.Random(25)
        longest = 0
        for step in range(40):
            faces = [chance.choice(BOARD_FACES + EDGE_ON + [level(1)] * 9) for number in range(24)]
            things = [(face, chance.choice(COATS), chance.randint(0, 8)) for face in faces]
            dot = (chance.randint(0, 5), chance.randint(0, 5))
            told = sheets_at(things, dot)
            self.assertIs(type(told), list)
            self.assertEqual(told, sheets_reckoned(things, dot))
            longest = max(longest, len(told))
        self.assertGreater(longest, 8)

    def test_what_is_told_is_the_askers_own(self):
        asks_again(self, sheets_at, [(HERE, coat, 3) for coat in COATS], (1, 1))
        asks_again(self, sheets_at, [], (1, 1))


class Coloured(unittest.TestCase):
    def test_example(self):
        things = [(HERE, RED, 8), (BEYOND_HERE, GREEN, 4)]
        self.assertEqual(
            coloured(things, (5, 2), (0, 0, 200)),
            [
                [(255, 0, 0)] * 4 + [(0, 0, 200)],
                [(255, 0, 0)] * 3 + [(0, 127, 100), (0, 0, 200)],
            ],
        )

    def test_glass_before_and_behind(self):
        near, far = (level(1), RED, 4), (level(2), GREEN, 8)
        for things in ([near, far], [far, near]):
            self.assertEqual(coloured(things, (1, 1), WHITE), [[(127, 127, 0)]])
        self.assertEqual(coloured([(level(2), RED, 4), (level(1), GREEN, 8)], (1, 1), WHITE), [[(0, 255, 0)]])

    def test_no_things(self):
        self.assertEqual(coloured([], (2, 3), GREY), [[GREY, GREY], [GREY, GREY], [GREY, GREY]])
        self.assertEqual(coloured([], (1, 1), BLACK), [[BLACK]])

    def test_things_that_let_all_through(self):
        self.assertEqual(coloured([(HERE, RED, 0)] * 24, (3, 1), GREY), [[GREY] * 3])

    def test_covers_of_8_show_what_is_seen(self):
        faces = BOARD_FACES[:24]
        things = [(face, ("plain", (number, 0, 0)), 8) for number, face in enumerate(faces)]
        numbers = painted(faces, (16, 16))
        expected = [[(99, 99, 99) if one is None else (one, 0, 0) for one in row] for row in numbers]
        self.assertEqual(coloured(things, (16, 16), (99, 99, 99)), expected)

    def test_as_reckoned(self):
        chance = random.Random(26)
        for wide, high in BOARDS:
            things = [(face, chance.choice(COATS), chance.randint(0, 8)) for face in chance.sample(BOARD_FACES, 12)]
            told = coloured(things, (wide, high), GREY)
            self.assertEqual(len(told), high)
            for x, y in itertools.product(range(wide), range(high)):
                reckoned = through_reckoned(sheets_reckoned(things, (x, y)), GREY)
                self.assertTrue(is_tuple_of_whole(told[y][x], 3))
                self.assertEqual(told[y][x], tuple(int(one) for one in reckoned))
            self.assertEqual({len(row) for row in told}, {wide})

    def test_what_is_no_board_is_refused(self):
        for thing in NO_BOARDS + ANY_THINGS:
            refused(self, NoBoard, coloured, [(HERE, RED, 8)], thing, GREY)
            refused(self, NoBoard, coloured, [], thing, GREY)

    def test_what_is_told_is_the_askers_own(self):
        asks_again(self, coloured, [(HERE, coat, 3) for coat in COATS], (5, 4), GREY)
        asks_again(self, coloured, [], (3, 16), GREY)

    def test_what_is_done_to_a_picture_behind_the_call_changes_no_answer(self):
        rows = [[(1, 2, 3)]]
        things = [(HERE, ("picture", rows, (0, 0), (0, 0), (0, 0)), 8)]
        told = coloured(things, (1, 1), GREY)
        rows[0][0] = (9, 9, 9)
        things.clear()
        self.assertEqual(told, [[(1, 2, 3)]])


if __name__ == "__main__":
    unittest.main()

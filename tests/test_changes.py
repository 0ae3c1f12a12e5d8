import copy
import itertools
import random
import unittest

from onceshade.changes import changed_numbers, damaged, mended
from onceshade.depths import painted
from onceshade.errors import NoBoard
from onceshade.squares import painted_by_squares, squares_of
from helpers import ANY_THINGS, asks_again, is_tuple_of_whole, refused
from reckon import has_reckoned
from samples import AWAY, BEYOND_HERE, BOARD_FACES, BOARDS, EDGE_ON, HERE, NO_BOARDS, NO_SIDES, SIDES, SLANTED

BESIDE = ((100, 100, 0, 1), (110, 100, 0, 1), (100, 110, 0, 1))
# It has just the dot (5, 2).
SMALL = ((5, 2, 1, 1), (6, 2, 1, 1), (5, 3, 1, 1))
SMALL_ELSEWHERE = ((1, 3, 1, 1), (2, 3, 1, 1), (1, 4, 1, 1))


def changed_reckoned(older, newer):
    pairs = itertools.zip_longest(older, newer, fillvalue="none")
    return [(number, one, other) for number, (one, other) in enumerate(pairs) if one != other]


def damaged_reckoned(older, newer, board, side):
    found = set()
    for number, one, other in changed_reckoned(older, newer):
        for face in (one, other):
            for x, y in itertools.product(range(board[0]), range(board[1])):
                if face != "none" and has_reckoned(face, (x, y)):
                    left, top = x - x % side, y - y % side
                    found.add((left, top, min(side, board[0] - left), min(side, board[1] - top)))
    return sorted(found)


def chance_change(chance, faces):
    """Faces of which some came, went or moved."""
    newer = list(faces)
    for step in range(chance.randint(0, 3)):
        kind = chance.randint(0, 3)
        if kind == 0 and len(newer) < 24:
            newer.append(chance.choice(BOARD_FACES + EDGE_ON))
        elif kind == 1 and newer:
            newer.pop(chance.randrange(len(newer)))
        elif newer:
            newer[chance.randrange(len(newer))] = chance.choice(BOARD_FACES + EDGE_ON)
    return newer


class ChangedNumbers(unittest.TestCase):
    def test_alike_lists(self):
        self.assertEqual(changed_numbers([], []), [])
        self.assertEqual(changed_numbers([HERE], [HERE]), [])
        self.assertEqual(changed_numbers([HERE, SLANTED, HERE], [HERE, SLANTED, HERE]), [])
        self.assertEqual(changed_numbers(BOARD_FACES[:24], list(BOARD_FACES[:24])), [])

    def test_one_longer_or_empty(self):
        self.assertEqual(changed_numbers([HERE, AWAY], [HERE]), [1])
        self.assertEqual(changed_numbers([HERE], [HERE, AWAY, AWAY]), [1, 2])
        self.assertEqual(changed_numbers([], [HERE, AWAY]), [0, 1])
        self.assertEqual(changed_numbers([HERE, AWAY, AWAY], []), [0, 1, 2])

    def test_unlike_faces(self):
        self.assertEqual(changed_numbers([HERE, AWAY, SLANTED], [HERE, SLANTED, SLANTED]), [1])
        self.assertEqual(changed_numbers([HERE, AWAY, SLANTED], [AWAY, AWAY, HERE]), [0, 2])
        self.assertEqual(changed_numbers([HERE, AWAY, SLANTED], [AWAY, HERE]), [0, 1, 2])
        self.assertEqual(changed_numbers([HERE] * 24, [AWAY] * 24), list(range(24)))
        self.assertEqual(changed_numbers([SLANTED], [SLANTED[:2] + ((0, 6, -7, 1),)]), [0])

    def test_unlike_tuples_at_the_same_place(self):
        a, b, c = HERE
        self.assertEqual(changed_numbers([HERE, HERE], [(b, c, a), HERE]), [0])
        self.assertEqual(changed_numbers([HERE, HERE], [HERE, (a, c, b)]), [1])

    def test_the_same_tuple_of_another_making(self):
        self.assertEqual(changed_numbers([HERE], [tuple([tuple(list(corner)) for corner in HERE])]), [])

    def test_as_reckoned(self):
        chance = random.Random(26)
        for step in range(200):
            older = chance.choices([HERE, AWAY, SLANTED], k=chance.randint(0, 24))
            newer = chance.choices([HERE, AWAY, SLANTED], k=chance.randint(0, 24))
            told = changed_numbers(older, newer)
            self.assertIs(type(told), list)
            self.assertTrue(all(type(number) is int for number in told))
            self.assertEqual(told, [number for number, one, other in changed_reckoned(older, newer)])

    def test_what_is_told_is_the_askers_own(self):
        for older, newer in [([HERE], [AWAY, AWAY]), ([HERE], [HERE]), ([], []), ([HERE, HERE], [])]:
            asks_again(self, changed_numbers, older, newer)


class Damaged(unittest.TestCase):
    def test_came_and_went(self):
        for older, newer in [([], [SMALL]), ([SMALL], []), ([HERE], [HERE, SMALL]), ([HERE, SMALL], [HERE])]:
            self.assertEqual(damaged(older, newer, (16, 16), 4), [(4, 0, 4, 4)])
            self.assertEqual(damaged(older, newer, (16, 16), 1), [(5, 2, 1, 1)])
            self.assertEqual(damaged(older, newer, (16, 16), 16), [(0, 0, 16, 16)])
            self.assertEqual(damaged(older, newer, (7, 3), 5), [(5, 0, 2, 3)])

    def test_moved(self):
        self.assertEqual(damaged([SMALL], [SMALL_ELSEWHERE], (16, 16), 2), [(0, 2, 2, 2), (4, 2, 2, 2)])
        self.assertEqual(damaged([SMALL_ELSEWHERE], [SMALL], (16, 16), 2), [(0, 2, 2, 2), (4, 2, 2, 2)])

    def test_each_once(self):
        turned = SMALL[1:] + SMALL[:1]
        self.assertEqual(damaged([SMALL], [turned], (16, 16), 3), [(3, 0, 3, 3)])
        self.assertEqual(damaged([SMALL] * 3, [turned] * 2, (16, 16), 3), [(3, 0, 3, 3)])

    def test_a_face_taken_out_renumbers_those_behind_it(self):
        self.assertEqual(
            damaged([HERE, SMALL, SMALL_ELSEWHERE], [HERE, SMALL_ELSEWHERE], (16, 16), 2),
            [(0, 2, 2, 2), (4, 2, 2, 2)],
        )

    def test_what_did_not_change_damages_nothing(self):
        self.assertEqual(damaged([], [], (16, 16), 4), [])
        self.assertEqual(damaged([HERE, SLANTED], [HERE, SLANTED], (16, 16), 1), [])

    def test_faces_edge_on_and_beside_the_board(self):
        for face in EDGE_ON + [BESIDE]:
            for side in SIDES:
                self.assertEqual(damaged([], [face], (16, 16), side), [])
                self.assertEqual(damaged([face], [], (5, 4), side), [])
        self.assertEqual(damaged([EDGE_ON[0], BESIDE], [SMALL, EDGE_ON[0]], (16, 16), 4), [(4, 0, 4, 4)])

    def test_dots_beyond_the_board_count_for_nothing(self):
        self.assertEqual(damaged([], [SMALL], (5, 16), 4), [])
        self.assertEqual(damaged([], [SMALL], (16, 2), 4), [])
        self.assertEqual(damaged([], [SMALL], (6, 3), 4), [(4, 0, 2, 3)])

    def test_seen_or_not(self):
        # The dot is had by the changed face, though another one stands ahead of it.
        ahead = ((-40, -40, -9, 1), (90, -40, -9, 1), (-40, 90, -9, 1))
        self.assertEqual(damaged([ahead], [ahead, SMALL], (16, 16), 4), [(4, 0, 4, 4)])

    def test_sorted_by_left_first(self):
        self.assertEqual(
            damaged([], [HERE, BEYOND_HERE], (5, 4), 2),
            [(0, 0, 2, 2), (0, 2, 2, 2), (2, 0, 2, 2), (2, 2, 2, 2)],
        )

    def test_as_reckoned(self):
        chance = random.Random(27)
        for step in range(60):
            older = chance.choices(BOARD_FACES + EDGE_ON, k=chance.randint(0, 5))
            newer = chance_change(chance, older)
            board = chance.choice(BOARDS + [(9, 13)])
            side = chance.choice(SIDES)
            told = damaged(older, newer, board, side)
            self.assertIs(type(told), list)
            self.assertTrue(all(is_tuple_of_whole(square, 4) for square in told))
            self.assertEqual(told, damaged_reckoned(older, newer, board, side))
            self.assertTrue(set(told) <= set(squares_of(board, side)))

    def test_what_is_no_board_or_no_side_is_refused(self):
        for older, newer in [([HERE], [AWAY]), ([], []), ([HERE], [HERE]), ([BESIDE], [])]:
            for thing in NO_BOARDS + ANY_THINGS:
                refused(self, NoBoard, damaged, older, newer, thing, 4)
                refused(self, NoBoard, damaged, older, newer, thing, thing)
            for thing in NO_SIDES:
                refused(self, NoBoard, damaged, older, newer, (4, 4), thing)

    def test_what_is_told_is_the_askers_own(self):
        asks_again(self, damaged, [HERE], [SLANTED], (5, 4), 2)
        asks_again(self, damaged, [HERE], [HERE], (5, 4), 2)


class Mended(unittest.TestCase):
    def test_examples(self):
        picture = [[None, None, None], [None, None, None]]
        corner = ((0, 0, 1, 1), (1, 0, 1, 1), (0, 1, 1, 1))
        self.assertEqual(mended(picture, [], [corner], (3, 2), 1), [[0, None, None], [None, None, None]])
        self.assertEqual(mended([[0, None, None], [None] * 3], [corner], [], (3, 2), 1), picture)
        self.assertEqual(mended([[0, 7, 8], [None, 9, 5]], [corner], [], (3, 2), 1), [[None, 7, 8], [None, 9, 5]])
        self.assertEqual(mended([[0, 7, 8], [4, 9, 5]], [corner], [], (3, 2), 2), [[None, None, 8], [None, None, 5]])
        self.assertEqual(mended([[0, 7, 8], [4, 9, 5]], [corner], [], (3, 2), 16), picture)

    def test_the_older_picture_becomes_the_newer_one_for_every_side(self):
        chance = random.Random(28)
        for step in range(25):
            older = chance.choices(BOARD_FACES + EDGE_ON, k=chance.randint(0, 9))
            newer = chance_change(chance, older)
            board = chance.choice(BOARDS + [(9, 13)])
            before, expected = painted(older, board), painted(newer, board)
            for side in SIDES:
                told = mended(before, older, newer, board, side)
                self.assertEqual(told, expected)
                self.assertEqual(told, painted_by_squares(newer, board, side)[0])

    def test_all_changed(self):
        older, newer = BOARD_FACES[:12], BOARD_FACES[12:]
        for board in BOARDS:
            for side in (1, 3, 16):
                before = painted(older, board)
                self.assertEqual(mended(before, older, newer, board, side), painted(newer, board))
                self.assertEqual(mended(before, older, [], board, side), painted([], board))
                self.assertEqual(mended(painted([], board), [], newer, board, side), painted(newer, board))

    def test_any_numbers_stay_outside_the_damaged_squares(self):
        chance = random.Random(29)
        for step in range(40):
            wide, high = board = chance.choice(BOARDS + [(9, 13)])
            older = chance.choices(BOARD_FACES + EDGE_ON, k=chance.randint(0, 5))
            newer = chance_change(chance, older)
            side = chance.choice(SIDES)
            picture = [[chance.choice([None, -1, 0, 23, 24, 10 ** 11]) for x in range(wide)] for y in range(high)]
            expected = copy.deepcopy(picture)
            anew = painted(newer, board)
            for left, top, across, down in damaged_reckoned(older, newer, board, side):
                for y in range(top, top + down):
                    expected[y][left:left + across] = anew[y][left:left + across]
            self.assertEqual(mended(picture, older, newer, board, side), expected)

    def test_faces_unchanged_are_painted_in_damaged_squares_only(self):
        # The picture handed in is not that of the older faces: what was not damaged isn't put right.
        self.assertEqual(mended([[5] * 8] * 4, [HERE], [HERE, SMALL], (8, 4), 4), [[5] * 4 + [None] * 4] * 2 + [
            [5] * 4 + [None, 1, None, None], [5] * 4 + [None] * 4,
        ])

    def test_rows_are_new_also_where_nothing_changed(self):
        row = [1, 2, None]
        picture = [row, row]
        told = mended(picture, [HERE], [HERE], (3, 2), 2)
        self.assertEqual(told, [[1, 2, None], [1, 2, None]])
        told[0][0] = 9
        self.assertEqual((told, picture), ([[9, 2, None], [1, 2, None]], [[1, 2, None], [1, 2, None]]))
        for newer in ([HERE], [], [SLANTED], [HERE, SMALL]):
            asks_again(self, mended, picture, [HERE], newer, (3, 2), 1)
            asks_again(self, mended, painted([HERE], (8, 4)), [HERE], newer, (8, 4), 4)

    def test_what_is_done_behind_the_call_changes_no_answer(self):
        picture, older, newer = painted([HERE], (5, 4)), [HERE], [SLANTED]
        told = mended(picture, older, newer, (5, 4), 2)
        expected = copy.deepcopy(told)
        picture[0].clear()
        picture.clear()
        older.clear()
        newer.clear()
        self.assertEqual(told, expected)

    def test_what_is_no_board_or_no_side_is_refused(self):
        for older, newer in [([HERE], [AWAY]), ([], []), ([HERE], [HERE])]:
            for thing in NO_BOARDS + ANY_THINGS:
                refused(self, NoBoard, mended, [[None] * 4] * 4, older, newer, thing, 4)
                refused(self, NoBoard, mended, [[None] * 4] * 4, older, newer, thing, thing)
            for thing in NO_SIDES:
                refused(self, NoBoard, mended, [[None] * 4] * 4, older, newer, (4, 4), thing)


if __name__ == "__main__":
    unittest.main()

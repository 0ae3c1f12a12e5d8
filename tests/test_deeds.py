import copy
import random
import unittest
from math import gcd

from onceshade.deeds import played
from onceshade.errors import Behind, NoDeed, TooMany
from onceshade.moves import after, faces_seen, look_from, quarter, shift, stretch
from helpers import ANY_THINGS, GREATEST, asks_again, is_tuple_of_whole, lists_in, refused
from samples import (
    BODIES, COATS, CUBE, FULL, NO_BODY_PARTS, NO_COATS, NO_COVERS, NO_DEEDS, NO_MOVES, ODD, POINT, RED, STILL,
    TETRAHEDRON, TRIANGLE,
)

WHITE_COAT = ("plain", (255, 255, 255))
PUSH, POP, DRAW = ("push",), ("pop",), ("draw", TRIANGLE)
SEEN = ((0, 0, 1, 1), (4, 0, 1, 1), (0, 4, 1, 1))
BEHIND = ("move", ((1, 0, 0, 0), (0, 1, 0, 0), (0, 0, 1, 0), (0, 0, 0, -1)))
HUGE = 10 ** 400 + 7


def with_move(move):
    return [("move", move), DRAW]


def made_by(moves, corner):
    """The spot that comes of a corner when all moves are done, the one told last first."""
    numbers = corner + (1,)
    for move in reversed(moves):
        numbers = tuple(sum(one * other for one, other in zip(row, numbers)) for row in move)
    if numbers[3] <= 0:
        raise Behind
    shared = gcd(*numbers)
    return tuple(number // shared for number in numbers)


def played_reckoned(deeds):
    """Things, from moves kept one by one rather than put together."""
    holding, kept, things = ([], WHITE_COAT, 8), [], []
    for deed in deeds:
        moves, coat, cover = holding
        if deed[0] == "push":
            kept.append(holding)
        elif deed[0] == "pop":
            if not kept:
                raise NoDeed
            holding = kept.pop()
        elif deed[0] == "move":
            holding = (moves + [deed[1]], coat, cover)
        elif deed[0] == "coat":
            holding = (moves, deed[1], cover)
        elif deed[0] == "cover":
            holding = (moves, coat, deed[1])
        else:
            corners, faces = deed[1]
            made = [tuple(made_by(moves, corners[at]) for at in face) for face in faces]
            things += [(face, coat, cover) for face in made]
            if len(things) > 24:
                raise TooMany
    return things


class Deeds(unittest.TestCase):
    def test_no_deeds(self):
        self.assertEqual(played([]), [])

    def test_draw(self):
        self.assertEqual(played([DRAW]), [(SEEN, WHITE_COAT, 8)])
        self.assertEqual(
            played([("draw", TETRAHEDRON)]),
            [(face, WHITE_COAT, 8) for face in faces_seen(TETRAHEDRON, STILL)],
        )
        self.assertEqual(played([DRAW, DRAW]), [(SEEN, WHITE_COAT, 8)] * 2)

    def test_bodies_without_faces(self):
        self.assertEqual(played([("draw", POINT)]), [])
        self.assertEqual(played([BEHIND, ("draw", POINT)]), [])

    def test_coat_and_cover_from_then_on(self):
        deeds = [DRAW, ("coat", ("plain", RED)), DRAW, ("cover", 3), DRAW, ("coat", COATS[3]), DRAW, ("cover", 0), DRAW]
        self.assertEqual(played(deeds), [
            (SEEN, WHITE_COAT, 8), (SEEN, ("plain", RED), 8), (SEEN, ("plain", RED), 3), (SEEN, COATS[3], 3),
            (SEEN, COATS[3], 0),
        ])

    def test_all_coats_and_covers(self):
        for coat in COATS:
            for cover in range(9):
                self.assertEqual(played([("cover", cover), ("coat", coat), DRAW]), [(SEEN, coat, cover)])
        great = ("picture", [[RED]], (HUGE, -HUGE), (0, 0), (GREATEST, -GREATEST))
        self.assertEqual(played([("coat", great), DRAW]), [(SEEN, great, 8)])

    def test_one_to_six_rows_of_one_to_six(self):
        for wide in range(1, 7):
            for high in range(1, 7):
                coat = ("picture", [[RED] * wide for row in range(high)], (0, 0), (1, 0), (0, 1))
                self.assertEqual(played([("coat", coat), DRAW]), [(SEEN, coat, 8)])

    def test_the_move_that_holds_after_the_told_one(self):
        # Told first: the shift. So what is told later is done first, here the quarter turn.
        one, other = shift(10, 0, 0), quarter(2)
        self.assertEqual(
            played([("move", one), ("move", other), DRAW])[0][0],
            ((10, 0, 1, 1), (10, 4, 1, 1), (6, 0, 1, 1)),
        )
        self.assertEqual(
            played([("move", other), ("move", one), DRAW])[0][0],
            ((0, 10, 1, 1), (0, 14, 1, 1), (-4, 10, 1, 1)),
        )
        self.assertEqual(
            played([("move", look_from(8)), ("move", shift(0, 0, 3)), DRAW])[0][0],
            faces_seen(TRIANGLE, after(look_from(8), shift(0, 0, 3)))[0],
        )

    def test_a_move_of_any_rows(self):
        rows = ((1, 2, 3, 4), (-5, 6, -7, 8), (9, -10, 11, 12), (13, 14, -15, 16))
        self.assertEqual(played(with_move(rows))[0][0], faces_seen(TRIANGLE, rows)[0])
        rows = ((0, 0, 0, 0), (0, 0, 0, 0), (0, 0, 0, 0), (0, 0, 0, 3))
        self.assertEqual(played(with_move(rows))[0][0], ((0, 0, 0, 1),) * 3)
        self.assertEqual(played(with_move(((2,) + (0,) * 3, (0, 2, 0, 0), (0, 0, 2, 0), (0, 0, 0, 2))))[0][0], SEEN)

    def test_great_numbers(self):
        rows = ((HUGE, 0, 0, 1), (0, 1 - HUGE, 0, 0), (0, 0, 1, HUGE), (0, 0, 0, HUGE + 2))
        self.assertEqual(played(with_move(rows)), played_reckoned(with_move(rows)))
        deeds = [("move", rows)] * 3 + [DRAW, ("move", rows), DRAW]
        self.assertEqual(played(deeds), played_reckoned(deeds))
        rows = ((GREATEST, 1, -3, 2), (3, GREATEST, 5, -2), (7, -1, 2, GREATEST), (1, 2, GREATEST, GREATEST))
        deeds = [("move", rows)] * 59 + [DRAW]
        self.assertEqual(played(deeds), played_reckoned(deeds))

    def test_a_move_that_takes_behind_may_be_brought_back(self):
        # Only what a draw makes is looked at, by the whole move that holds.
        self.assertEqual(played([BEHIND, BEHIND, DRAW])[0][0], SEEN)
        self.assertEqual(played([BEHIND]), [])
        self.assertEqual(played([PUSH, BEHIND, POP, DRAW])[0][0], SEEN)

    def test_push_and_pop(self):
        red, blue = ("plain", RED), ("plain", (0, 0, 255))
        deeds = [
            ("coat", red), ("cover", 5), PUSH, ("coat", blue), ("move", shift(1, 0, 0)), PUSH, ("cover", 2),
            ("move", shift(0, 1, 0)), DRAW, POP, DRAW, POP, DRAW,
        ]
        self.assertEqual(played(deeds), [
            (((1, 1, 1, 1), (5, 1, 1, 1), (1, 5, 1, 1)), blue, 2), (((1, 0, 1, 1), (5, 0, 1, 1), (1, 4, 1, 1)), blue, 5),
            (SEEN, red, 5),
        ])

    def test_push_leaves_what_holds(self):
        self.assertEqual(played([("cover", 1), PUSH, DRAW, PUSH, DRAW]), [(SEEN, WHITE_COAT, 1)] * 2)
        self.assertEqual(played([PUSH] * 60), [])
        self.assertEqual(played([PUSH] * 30 + [POP] * 30), [])

    def test_things_drawn_stay_after_a_pop(self):
        self.assertEqual(len(played([PUSH, DRAW, POP, PUSH, DRAW, POP])), 2)

    def test_a_pop_too_many(self):
        for deeds in ([POP], [PUSH, POP, POP], [DRAW, POP], [PUSH, PUSH, POP, POP, POP, PUSH]):
            refused(self, NoDeed, played, deeds)

    def test_24_things_and_25(self):
        self.assertEqual(len(played([DRAW] * 24)), 24)
        refused(self, TooMany, played, [DRAW] * 25)
        self.assertEqual(len(played([("draw", CUBE)] * 2)), 24)
        refused(self, TooMany, played, [("draw", CUBE)] * 2 + [DRAW])
        refused(self, TooMany, played, [DRAW] * 13 + [("draw", CUBE)])
        self.assertEqual(len(played([DRAW] * 12 + [("draw", CUBE)])), 24)
        self.assertEqual(len(played([DRAW] * 24 + [("draw", POINT)])), 24)
        self.assertEqual(len(played([("draw", FULL)])), 24)

    def test_60_deeds_and_61(self):
        self.assertEqual(len(played([DRAW] + [PUSH] * 59)), 1)
        refused(self, TooMany, played, [PUSH] * 61)
        # Ahead of all else.
        refused(self, TooMany, played, [POP] * 61)
        refused(self, TooMany, played, [None] * 61)
        refused(self, TooMany, played, [BEHIND, DRAW] + [PUSH] * 59)
        refused(self, NoDeed, played, [None] * 60)
        refused(self, NoDeed, played, [POP] * 60)

    def test_behind(self):
        refused(self, Behind, played, [BEHIND, DRAW])
        refused(self, Behind, played, [("move", look_from(1)), ("draw", TETRAHEDRON)])
        # A corner that no face has may be.
        body = ([(0, 0, 1), (4, 0, 1), (0, 4, 1), (0, 0, -1)], [(0, 1, 2)])
        self.assertEqual(len(played([("move", look_from(1)), ("draw", body)])), 1)

    def test_behind_goes_ahead_of_too_many_in_one_deed(self):
        refused(self, Behind, played, [DRAW] * 24 + [BEHIND, DRAW])
        refused(self, Behind, played, [DRAW] * 20 + [("move", look_from(1)), ("draw", TETRAHEDRON), DRAW])
        # Of which the last face alone is behind.
        corners = [(0, 0, 1), (4, 0, 1), (0, 4, 1), (0, 0, -1)]
        body = (corners, [(0, 1, 2), (0, 2, 1), (0, 1, 3)])
        refused(self, Behind, played, [("move", look_from(1))] + [DRAW] * 23 + [("draw", body)])

    def test_the_first_one_refused_is_told(self):
        refused(self, NoDeed, played, [POP, BEHIND, DRAW])
        refused(self, Behind, played, [BEHIND, DRAW, POP])
        refused(self, Behind, played, [BEHIND, DRAW, None])
        refused(self, TooMany, played, [DRAW] * 25 + [POP])
        refused(self, TooMany, played, [DRAW] * 25 + [BEHIND, DRAW])
        refused(self, TooMany, played, [DRAW] * 25 + [None])
        refused(self, NoDeed, played, [DRAW] * 24 + [None, DRAW])
        refused(self, NoDeed, played, [BEHIND, ("draw", None), DRAW])

    def test_what_is_no_deed_is_refused(self):
        for thing in NO_DEEDS:
            refused(self, NoDeed, played, [thing])
            refused(self, NoDeed, played, [PUSH, DRAW, thing])

    def test_parts_not_of_their_kind_are_refused(self):
        for word, things in [("move", NO_MOVES), ("coat", NO_COATS), ("cover", NO_COVERS), ("draw", NO_BODY_PARTS)]:
            for thing in things:
                refused(self, NoDeed, played, [(word, thing)])
                refused(self, NoDeed, played, [(word, thing), POP])

    def test_what_is_no_list_is_refused(self):
        for thing in [(), (PUSH,), None, 5, "push", (PUSH,) * 61]:
            refused(self, NoDeed, played, thing)

    def test_as_reckoned(self):
        chance = random.Random(31)
        kinds = []
        for step in range(300):
            deeds = []
            for number in range(chance.randint(0, 30)):
                move = chance.choice([shift(1, -2, 3), quarter(chance.randint(0, 2)), stretch(2, 3, -1)] * 6 + [look_from(2)])
                deeds.append(chance.choice([
                    PUSH, PUSH, PUSH, POP, ("move", move), ("coat", chance.choice(COATS)), ("cover", chance.randint(0, 8)),
                    ("draw", chance.choice([TRIANGLE, TETRAHEDRON, POINT, ODD])), ("draw", TETRAHEDRON),
                ]))
            try:
                expected = played_reckoned(deeds)
            except (NoDeed, Behind, TooMany) as error:
                refused(self, type(error), played, deeds)
                kinds.append(type(error))
            else:
                told = played(deeds)
                self.assertEqual(told, expected)
                for face, coat, cover in told:
                    self.assertTrue(all(is_tuple_of_whole(corner, 4) for corner in face))
                    self.assertEqual((type(face), len(face), type(coat), type(cover)), (tuple, 3, tuple, int))
                kinds.append(len(expected) > 0)
        for kind in (NoDeed, Behind, TooMany, True):
            self.assertGreater(kinds.count(kind), 10)

    def test_what_is_told_is_the_askers_own(self):
        row = [RED, (1, 2, 3)]
        # One list stands in it twice as it is handed in, and both coats are one.
        coat = ("picture", [row, row], (0, 0), (1, 0), (0, 1))
        deeds = [("coat", coat), ("draw", TETRAHEDRON), PUSH, DRAW, ("coat", coat), DRAW, POP, DRAW]
        told = asks_again(self, played, deeds)
        self.assertEqual(len(told), 7)
        self.assertEqual(len(lists_in(told)), 1 + 7 * 3)
        self.assertEqual({str(thing[1]) for thing in told}, {str(coat)})
        asks_again(self, played, [])
        asks_again(self, played, [DRAW])

    def test_what_is_done_behind_the_call_changes_no_answer(self):
        rows = [[RED], [(1, 2, 3)]]
        body = ([(0, 0, 1), (4, 0, 1), (0, 4, 1)], [(0, 1, 2)])
        deeds = [("coat", ("picture", rows, (0, 0), (1, 0), (0, 1))), ("draw", body)]
        told = played(deeds)
        expected = copy.deepcopy(told)
        for one in lists_in(deeds):
            one.clear()
        self.assertEqual(told, expected)


if __name__ == "__main__":
    unittest.main()

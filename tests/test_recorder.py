import copy
import itertools
import random
import unittest

from onceshade.deeds import played
from onceshade.errors import Behind, NoBoard, NoDeed, ShadeError, TooMany
from onceshade.moves import look_from, quarter, shift, still, stretch
from onceshade.recorder import Recorder
from onceshade.sheets import coloured
from helpers import ANY_THINGS, asks_again, lists_in, refused
from samples import (
    BODIES, BOARDS, COATS, CUBE, MOVES, NO_BOARDS, NO_BODY_PARTS, NO_COATS, NO_COVERS, NO_MOVES, ODD, POINT, RED, TETRAHEDRON,
    TRIANGLE,
)

GREY = (100, 150, 200)
BEHIND = still()[:3] + ((0, 0, 0, -1),)
WORDS = ("move", "coat", "cover", "draw")


def tell(recorder, deed):
    """A deed told to a recorder, as the method of its word."""
    getattr(recorder, deed[0])(*deed[1:])


def with_deeds(deeds):
    recorder = Recorder()
    for deed in deeds:
        tell(recorder, deed)
    return recorder


class Recorders(unittest.TestCase):
    def keeps(self, recorder, deeds):
        """The recorder has these deeds, and their picture."""
        self.assertEqual(recorder.deeds(), deeds)
        self.assertEqual(recorder.picture((7, 6), GREY), coloured(played(deeds), (7, 6), GREY))

    def refuses(self, kind, recorder, deed):
        """The deed is refused, and all is as ahead of it."""
        before = recorder.deeds()
        picture = recorder.picture((7, 6), GREY)
        refused(self, kind, getattr(recorder, deed[0]), *deed[1:])
        self.assertEqual(recorder.deeds(), before)
        self.assertEqual(recorder.picture((7, 6), GREY), picture)

    def test_no_deeds(self):
        recorder = Recorder()
        self.assertEqual(recorder.deeds(), [])
        self.assertEqual(recorder.picture((2, 1), GREY), [[GREY, GREY]])

    def test_each_method(self):
        recorder = Recorder()
        self.assertIsNone(recorder.push())
        self.assertIsNone(recorder.move(shift(1, 0, 0)))
        self.assertIsNone(recorder.coat(("plain", RED)))
        self.assertIsNone(recorder.cover(4))
        self.assertIsNone(recorder.draw(TRIANGLE))
        self.assertIsNone(recorder.pop())
        self.assertEqual(recorder.deeds(), [
            ("push",), ("move", shift(1, 0, 0)), ("coat", ("plain", RED)), ("cover", 4), ("draw", TRIANGLE), ("pop",),
        ])
        self.assertEqual(recorder.picture((3, 1), (1, 0, 201)), [[(1, 0, 201), (128, 0, 100), (128, 0, 100)]])
        self.keeps(recorder, recorder.deeds())

    def test_all_kinds_of_parts(self):
        for word, things in zip(WORDS, (MOVES, COATS, range(9), BODIES)):
            for thing in things:
                self.assertEqual(with_deeds([(word, thing)]).deeds(), [(word, thing)])

    def test_any_thing_is_refused_and_keeps_nothing(self):
        for word, things in zip(WORDS, (NO_MOVES, NO_COATS, NO_COVERS, NO_BODY_PARTS)):
            recorder = with_deeds([("cover", 3), ("draw", TRIANGLE)])
            for thing in things:
                refused(self, NoDeed, getattr(recorder, word), thing)
                refused(self, NoDeed, getattr(Recorder(), word), thing)
            self.keeps(recorder, [("cover", 3), ("draw", TRIANGLE)])

    def test_what_is_good_for_another_method_is_refused(self):
        parts = {"move": still(), "coat": ("plain", RED), "cover": 8, "draw": TRIANGLE}
        recorder = Recorder()
        for word, other in itertools.permutations(WORDS, 2):
            refused(self, NoDeed, getattr(recorder, word), parts[other])
        self.assertEqual(recorder.deeds(), [])

    def test_a_pop_with_nothing_kept(self):
        recorder = Recorder()
        self.refuses(NoDeed, recorder, ("pop",))
        recorder.push()
        recorder.cover(2)
        recorder.pop()
        self.refuses(NoDeed, recorder, ("pop",))
        self.keeps(recorder, [("push",), ("cover", 2), ("pop",)])
        # A refused pop leaves what holds: after another push one pop is good.
        recorder.push()
        recorder.pop()
        self.refuses(NoDeed, recorder, ("pop",))

    def test_24_things_and_a_draw_that_would_make_25(self):
        recorder = with_deeds([("draw", CUBE)] * 2)
        self.refuses(TooMany, recorder, ("draw", TRIANGLE))
        self.refuses(TooMany, recorder, ("draw", CUBE))
        recorder.draw(POINT)
        self.keeps(recorder, [("draw", CUBE)] * 2 + [("draw", POINT)])
        recorder = with_deeds([("draw", TRIANGLE)] * 13)
        self.refuses(TooMany, recorder, ("draw", CUBE))
        recorder.draw(TRIANGLE)
        self.keeps(recorder, [("draw", TRIANGLE)] * 14)

    def test_behind(self):
        recorder = with_deeds([("draw", TRIANGLE), ("push",), ("move", BEHIND)])
        self.refuses(Behind, recorder, ("draw", TRIANGLE))
        self.refuses(Behind, recorder, ("draw", TETRAHEDRON))
        recorder.draw(POINT)
        recorder.pop()
        recorder.draw(TRIANGLE)
        self.keeps(recorder, [
            ("draw", TRIANGLE), ("push",), ("move", BEHIND), ("draw", POINT), ("pop",), ("draw", TRIANGLE),
        ])

    def test_behind_ahead_of_too_many_things(self):
        recorder = with_deeds([("draw", TRIANGLE)] * 24 + [("move", BEHIND)])
        self.refuses(Behind, recorder, ("draw", TRIANGLE))

    def test_a_61st_deed(self):
        deeds = [("draw", TRIANGLE), ("push",), ("move", BEHIND)] + [("cover", 1)] * 57
        recorder = with_deeds(deeds)
        self.keeps(recorder, deeds)
        for deed in [
            ("push",), ("pop",), ("move", still()), ("coat", ("plain", RED)), ("cover", 8), ("draw", POINT),
            ("draw", TRIANGLE), ("draw", TETRAHEDRON),
        ]:
            self.refuses(TooMany, recorder, deed)
        for word in WORDS:
            for thing in ANY_THINGS:
                refused(self, TooMany, getattr(recorder, word), thing)
        self.keeps(recorder, deeds)
        recorder = with_deeds([("cover", 1)] * 60)
        self.refuses(TooMany, recorder, ("pop",))
        self.assertEqual(len(with_deeds([("push",)] * 30 + [("pop",)] * 30).deeds()), 60)

    def test_a_refused_deed_does_not_count(self):
        recorder = Recorder()
        for step in range(70):
            self.assertRaises(NoDeed, recorder.pop)
            self.assertRaises(NoDeed, recorder.cover, 9)
        for step in range(60):
            recorder.push()
        self.refuses(TooMany, recorder, ("push",))

    def test_undo(self):
        recorder = Recorder()
        refused(self, NoDeed, recorder.undo)
        deeds = [("cover", 3), ("push",), ("draw", TRIANGLE), ("coat", ("plain", RED)), ("pop",), ("draw", TETRAHEDRON)]
        recorder = with_deeds(deeds)
        while deeds:
            self.keeps(recorder, deeds)
            self.assertIsNone(recorder.undo())
            deeds.pop()
        self.keeps(recorder, [])
        refused(self, NoDeed, recorder.undo)
        self.refuses(NoDeed, recorder, ("pop",))
        recorder = with_deeds([("push",)] * 60)
        recorder.undo()
        recorder.cover(2)
        self.refuses(TooMany, recorder, ("push",))

    def test_two_recorders_by_turns(self):
        one, other = Recorder(), Recorder()
        one.coat(("plain", RED))
        other.draw(TRIANGLE)
        one.push()
        self.assertRaises(NoDeed, other.pop)
        one.draw(TETRAHEDRON)
        other.cover(3)
        one.pop()
        self.keeps(one, [("coat", ("plain", RED)), ("push",), ("draw", TETRAHEDRON), ("pop",)])
        self.keeps(other, [("draw", TRIANGLE), ("cover", 3)])
        self.assertEqual(Recorder().deeds(), [])

    def test_plays_to_the_same_picture(self):
        chance = random.Random(32)
        kinds = set()
        for step in range(40):
            recorder = Recorder()
            good = []
            for number in range(70):
                deed = chance.choice([
                    ("push",), ("push",), ("pop",), ("coat", chance.choice(COATS)), ("cover", chance.randint(-1, 9)),
                    ("move", chance.choice([shift(1, -1, 1), quarter(2), quarter(0), stretch(2, 1, 1), BEHIND])),
                    ("draw", chance.choice([TRIANGLE, TETRAHEDRON, ODD, POINT])),
                ])
                expected = None
                try:
                    played(good + [deed])
                except ShadeError as error:
                    expected = type(error)
                if expected is None:
                    tell(recorder, deed)
                    good.append(deed)
                else:
                    refused(self, expected, getattr(recorder, deed[0]), *deed[1:])
                kinds.add(expected)
            self.keeps(recorder, good)
        self.assertEqual(kinds, {None, NoDeed, Behind, TooMany})

    def test_pictures(self):
        recorder = with_deeds([("cover", 5), ("move", shift(2, 1, 0)), ("coat", COATS[6]), ("draw", TETRAHEDRON)])
        for board in BOARDS + [(1, 1), (16, 16)]:
            told = asks_again(self, recorder.picture, board, GREY)
            self.assertEqual(told, coloured(played(recorder.deeds()), board, GREY))

    def test_what_is_no_board_is_refused(self):
        recorder = with_deeds([("draw", TRIANGLE)])
        for thing in NO_BOARDS + ANY_THINGS:
            refused(self, NoBoard, recorder.picture, thing, GREY)
            refused(self, NoBoard, Recorder().picture, thing, GREY)
        self.keeps(recorder, [("draw", TRIANGLE)])

    def test_deeds_told_are_the_askers_own(self):
        row = [RED, GREY]
        coat = ("picture", [row, row], (0, 0), (2, 0), (0, 2))
        recorder = with_deeds([("coat", coat), ("draw", ODD), ("draw", ODD), ("coat", coat), ("draw", TRIANGLE), ("push",)])
        self.assertEqual(len(lists_in(recorder.deeds())), 13)
        picture = recorder.picture((5, 5), GREY)
        asks_again(self, recorder.deeds)
        self.assertEqual(recorder.picture((5, 5), GREY), picture)
        recorder.draw(TRIANGLE)
        self.assertEqual(recorder.deeds()[3], ("coat", coat))
        told = recorder.deeds()
        recorder.push()
        self.assertEqual(len(told), 7)

    def test_what_is_done_behind_the_call_changes_nothing(self):
        rows = [[RED, GREY], [GREY, RED]]
        coat = ("picture", rows, (0, 0), (2, 0), (0, 2))
        body = ([(0, 0, 1), (4, 0, 1), (0, 4, 1)], [(0, 1, 2)])
        deeds = copy.deepcopy([("coat", coat), ("draw", body)])
        recorder = with_deeds([("coat", coat), ("draw", body)])
        rows[0][0] = (1, 2, 3)
        rows[1].clear()
        body[0][0] = (9, 9, 9)
        body[1].append("none")
        self.keeps(recorder, deeds)
        # What was drawn ahead of the change, and what is drawn from then on.
        recorder.draw(TRIANGLE)
        self.keeps(recorder, deeds + [("draw", TRIANGLE)])

    def test_deeds_told_may_be_told_again(self):
        recorder = with_deeds([
            ("move", look_from(8)), ("move", shift(0, 0, 3)), ("coat", COATS[6]), ("draw", CUBE), ("push",), ("cover", 0),
        ])
        again = with_deeds(recorder.deeds())
        self.keeps(again, recorder.deeds())


if __name__ == "__main__":
    unittest.main()

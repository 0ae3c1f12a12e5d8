"""What the document promises over the whole program, over several modules at once."""

import copy
import itertools
import random
import unittest

from onceshade.bodies import inside_out, is_closed, together
from onceshade.changes import damaged, mended
from onceshade.coats import coat_at
from onceshade.deeds import played
from onceshade.depths import depth_at, ins_and_outs, painted, seen_at
from onceshade.desk import Desk
from onceshade.dots import dots_of, has_dot
from onceshade.errors import Behind, ShadeError
from onceshade.flats import cut, cut_all
from onceshade.looker import holds
from onceshade.moves import after, faces_seen, look_from, quarter, shift, slant, stretch
from onceshade.outlines import outline
from onceshade.recorder import Recorder
from onceshade.shadows import in_shadow, place_at
from onceshade.sheets import coloured, sheets_at, through
from onceshade.spans import spans_of
from onceshade.squares import painted_by_squares, part_of, squares_of
from onceshade.texts import read_body, read_colour, read_move, read_picture, show_body, show_colour, show_move, show_picture
from helpers import lists_in
from reckon import has_reckoned, meets_reckoned, seen_reckoned
from samples import COATS, CUBE, SIDES, TETRAHEDRON, TRIANGLE

BOARD = (16, 16)
DOTS = list(itertools.product(range(16), repeat=2))
GREY = (100, 150, 200)
# Two that go through one another, with 8 and 4 corners and 12 and 4 faces.
BOTH = together(CUBE, TETRAHEDRON)
FLATS = [(1, 0, 0, -5), (0, 1, 0, -6), (1, 1, 0, -9), (2, -1, 3, -7), (0, 0, 1, -1)]


def opposite(flat):
    return tuple(-number for number in flat)


def chance_move(chance):
    """A move that turns and slants what is near the middle, and looks at it straight on or from a point."""
    move = shift(chance.randint(-2, 2), chance.randint(-2, 2), 0)
    for step in range(chance.randint(1, 3)):
        i, j = chance.sample(range(3), 2)
        one = chance.choice([quarter(chance.randint(0, 2)), slant(i, j, chance.choice((-1, 1))), stretch(1, 2, -1)])
        move = after(one, move)
    if chance.random() < 0.5:
        return after(shift(5, 5, 0), after(stretch(3, 3, 1), move))
    return after(shift(6, 6, 0), after(look_from(chance.randint(60, 120)), after(shift(0, 0, 40), move)))


def chance_looks(number, many):
    """Faces of bodies seen by moves."""
    chance = random.Random(number)
    told = []
    while len(told) < many:
        body = chance.choice([CUBE, TETRAHEDRON, BOTH, inside_out(BOTH)])
        try:
            told.append(faces_seen(body, chance_move(chance)))
        except Behind:
            pass
    return told


def both_sides(faces, flats):
    """All pieces of each face by itself, on both sides of all flats, with the number of the face."""
    told = []
    for number, face in enumerate(faces):
        pieces = [face]
        for flat in flats:
            pieces = cut_all(pieces, flat) + cut_all(pieces, opposite(flat))
        told += [(piece, number) for piece in pieces]
    return told


class Seen(unittest.TestCase):
    def test_the_face_met_first_is_told(self):
        many = 0
        for faces in chance_looks(1, 6):
            told = painted(faces, BOARD)
            for x, y in DOTS:
                self.assertEqual(told[y][x], seen_reckoned(faces, (x, y)))
                many += told[y][x] is not None
        self.assertGreater(many, 200)

    def test_ins_and_outs_of_closed_bodies(self):
        self.assertTrue(is_closed(BOTH))
        most = 0
        for faces in chance_looks(2, 25):
            for dot in DOTS[::3]:
                ins, outs = ins_and_outs(faces, dot)
                self.assertEqual(ins, outs)
                most = max(most, ins)
        self.assertGreaterEqual(most, 2)

    def test_of_faces_with_a_side_in_common_each_dot_belongs_to_one(self):
        # A square cut from corner to corner, both ways, and fans about a dot: each dot on a side, its ends aside, once.
        for wide in range(1, 9):
            a, b, c, d = (2, 3, 1, 1), (2 + wide, 3, 1, 1), (2 + wide, 3 + wide, 1, 1), (2, 3 + wide, 1, 1)
            for faces in ([(a, b, c), (a, c, d)], [(a, b, d), (b, c, d)], [(a, c, b), (d, c, a)]):
                counts = [sum(has_dot(face, dot) for face in faces) for dot in DOTS]
                inside = [2 <= x < 2 + wide and 3 <= y < 3 + wide for x, y in DOTS]
                self.assertEqual(counts, [int(one) for one in inside])
        middle = (8, 8, 0, 1)
        rim = [(2, 2, 0, 1), (8, 0, 0, 1), (15, 3, 0, 1), (14, 13, 0, 1), (8, 15, 0, 1), (1, 12, 0, 1)]
        fan = [(middle, one, other) for one, other in zip(rim, rim[1:] + rim[:1])]
        for x, y in DOTS:
            many = sum(has_dot(face, (x, y)) for face in fan)
            self.assertLessEqual(many, 1)
            if 5 <= x <= 11 and 5 <= y <= 11:
                self.assertEqual(many, 1)

    def test_signs_and_spans_tell_the_same_dots(self):
        for faces in chance_looks(3, 8):
            for face in faces:
                by_spans = [(x, y) for y, first, last in spans_of(face, BOARD) for x in range(first, last + 1)]
                self.assertEqual(sorted(by_spans), dots_of(face, BOARD))


class Painted(unittest.TestCase):
    def test_faces_cut_on_both_sides_are_painted_as_whole_and_so_deep(self):
        chance = random.Random(4)
        for faces in chance_looks(4, 5):
            told = both_sides(faces[:6], chance.sample(FLATS, 3))
            expected = painted(faces[:6], BOARD)
            for x, y in DOTS:
                # More pieces than a list of faces may have: told by the nearest of those that have the dot.
                here = [(piece, number) for piece, number in told if has_dot(piece, (x, y))]
                self.assertEqual(
                    sorted(number for piece, number in here),
                    [number for number, face in enumerate(faces[:6]) if has_dot(face, (x, y))],
                )
                for piece, number in here:
                    self.assertEqual(depth_at(piece, (x, y)), depth_at(faces[number], (x, y)))
                seen = seen_at([piece for piece, number in here], (x, y))
                self.assertEqual(None if seen is None else here[seen][1], expected[y][x])

    def test_a_list_of_pieces_painted(self):
        for faces in chance_looks(5, 12):
            told = both_sides(faces[:4], FLATS[:1])
            self.assertLessEqual(len(told), 24)
            pieces = [piece for piece, number in told]
            numbers = {None: None, **{at: number for at, (piece, number) in enumerate(told)}}
            expected = painted(faces[:4], BOARD)
            self.assertEqual([[numbers[one] for one in row] for row in painted(pieces, BOARD)], expected)
            again = painted_by_squares(pieces, BOARD, 5)[0]
            self.assertEqual([[numbers[one] for one in row] for row in again], expected)

    def test_whatever_squares_the_picture_is_the_same(self):
        for faces in chance_looks(6, 4):
            for board in (BOARD, (13, 9), (1, 16)):
                expected = painted(faces, board)
                for side in SIDES:
                    picture, passed = painted_by_squares(faces, board, side)
                    self.assertEqual(picture, expected)
                    for square in squares_of(board, side):
                        self.assertEqual(part_of(picture, square), part_of(expected, square))

    def test_damaged_squares_alone_painted_anew(self):
        chance = random.Random(7)
        looks = chance_looks(7, 12)
        for older, newer in zip(looks, looks[1:]):
            # Of some changes just a few faces.
            mixed = [other if chance.random() < 0.2 else one for one, other in zip(older, newer)]
            for faces in (newer, mixed, older, older[:-1], []):
                for side in (1, 3, 4, 16):
                    picture = painted(older, BOARD)
                    told = mended(picture, older, faces, BOARD, side)
                    self.assertEqual(told, painted(faces, BOARD))
                    touched = damaged(older, faces, BOARD, side)
                    for square in squares_of(BOARD, side):
                        if square not in touched:
                            self.assertEqual(part_of(told, square), part_of(picture, square))

    def test_glass_however_it_is_taken_together(self):
        chance = random.Random(8)
        for faces in chance_looks(8, 6):
            things = [(face, chance.choice(COATS), chance.randint(0, 8)) for face in faces]
            for dot in DOTS[::7]:
                sheets = sheets_at(things, dot)
                whole = through(sheets, GREY)
                for at in range(len(sheets) + 1):
                    self.assertEqual(through(sheets[:at], through(sheets[at:], GREY)), whole)

    def test_the_nearest_sheet_is_what_is_seen(self):
        chance = random.Random(9)
        for faces in chance_looks(9, 6):
            things = [(face, chance.choice(COATS), 8) for face in faces]
            numbers = painted(faces, BOARD)
            picture = coloured(things, BOARD, GREY)
            for x, y in DOTS:
                seen = numbers[y][x]
                expected = GREY if seen is None else coat_at(things[seen][1], faces[seen], (x, y))
                self.assertEqual(picture[y][x], expected)


class Recorded(unittest.TestCase):
    def test_recorded_played_written_and_read(self):
        chance = random.Random(10)
        for step in range(12):
            recorder, desk, deeds = Recorder(), Desk(), []
            desk.say(f"body box {show_body(CUBE)}")
            desk.say(f"body tetra {show_body(TETRAHEDRON)}")
            for number in range(20):
                move, cover = chance_move(chance), chance.randint(0, 8)
                colour = tuple(chance.randint(0, 255) for at in range(3))
                deed, row = chance.choice([
                    (("push",), "push"), (("pop",), "pop"), (("move", move), f"move {show_move(move)}"),
                    (("coat", ("plain", colour)), f"coat {show_colour(colour)}"), (("cover", cover), f"cover {cover}"),
                    (("draw", CUBE), "draw box"), (("draw", TETRAHEDRON), "draw tetra"), (("draw", TETRAHEDRON), "draw tetra"),
                ])
                kinds = []
                for tell in (
                    lambda: played(deeds + [deed]), lambda: getattr(recorder, deed[0])(*deed[1:]), lambda: desk.say(row),
                ):
                    try:
                        tell()
                    except ShadeError as error:
                        kinds.append(type(error))
                    else:
                        kinds.append(None)
                self.assertEqual(kinds, kinds[:1] * 3)
                if kinds[0] is None:
                    deeds.append(deed)
            things = played(deeds)
            picture = coloured(things, BOARD, GREY)
            self.assertEqual(recorder.deeds(), deeds)
            self.assertEqual(recorder.picture(BOARD, GREY), picture)
            written = desk.say(f"paint 16 16 {show_colour(GREY)}")
            self.assertEqual(written, show_picture(picture))
            self.assertEqual(read_picture(written), picture)
            self.assertEqual(desk.say("count"), str(len(things)))
            for x, y in DOTS[::17]:
                seen = seen_at([thing[0] for thing in things], (x, y))
                self.assertEqual(desk.say(f"seen {x} {y}"), "none" if seen is None else str(seen))

    def test_what_is_written_is_read_again(self):
        chance = random.Random(11)
        for body in (CUBE, TETRAHEDRON, BOTH, inside_out(BOTH), TRIANGLE):
            self.assertEqual(read_body(show_body(body)), body)
        for step in range(30):
            move = after(chance_move(chance), chance_move(chance))
            self.assertEqual(read_move(show_move(move)), move)
            colour = tuple(chance.randint(0, 255) for at in range(3))
            self.assertEqual(read_colour(show_colour(colour)), colour)


class Papers(unittest.TestCase):
    def test_what_the_program_tells_holds_and_nothing_else(self):
        for faces in chance_looks(12, 4):
            for dot in DOTS[::19]:
                seen = seen_at(faces, dot)
                for number in [None] + list(range(len(faces))):
                    self.assertIs(holds(("dot", faces, dot, number)), number == seen)
            for face in faces[:5]:
                for flat in FLATS:
                    pieces = cut(face, flat)
                    self.assertIs(holds(("cut", face, flat, pieces)), True)
                    if any(has_dot(piece, dot) for piece in pieces for dot in DOTS):
                        self.assertIs(holds(("cut", face, flat, pieces + pieces)), False)
                    if cut(face, opposite(flat)) and pieces:
                        self.assertIs(holds(("cut", face, flat, [face])), False)
                        self.assertIs(holds(("cut", face, opposite(flat), pieces)), False)


class Handed(unittest.TestCase):
    def test_what_was_told_may_be_handed_in_again_whatever_its_size(self):
        # Moves put together, spots moved by them, faces cut, their places: numbers of hundreds of figures.
        big = ((999999999999, 3, -5, 7), (11, 999999999989, 13, 5), (2, 3, 999999999961, 9), (1, 2, 3, 999999999937))
        move = big
        for step in range(12):
            move = after(big, move)
        self.assertGreater(move[0][0], 10 ** 140)
        faces = faces_seen(TETRAHEDRON, after(move, shift(3, 3, 0)))
        pieces = both_sides(faces, FLATS[:2])
        self.assertGreater(max(max(corner) for piece, number in pieces for corner in piece), 10 ** 80)
        told = [piece for piece, number in pieces][:24]
        picture = painted(told, (9, 8))
        self.assertEqual(picture, [[seen_reckoned(told, (x, y)) for x in range(9)] for y in range(8)])
        self.assertEqual(painted_by_squares(told, (9, 8), 3)[0], picture)
        self.assertEqual(mended(painted(faces, (9, 8)), faces, told, (9, 8), 4), picture)
        for face in told:
            for dot in [(3, 3), (5, 4)]:
                self.assertIs(has_dot(face, dot), has_reckoned(face, dot))
        for dot in [(4, 4), (5, 3), (3, 5)]:
            seen = seen_at(faces, dot)
            if seen is not None:
                place = place_at(faces[seen], dot)
                for light in [(1, 1, 1), (0, 0, 1), place[:3]]:
                    expected = any(meets_reckoned(place, light, face) for at, face in enumerate(faces) if at != seen)
                    self.assertIs(in_shadow(faces, dot, light), expected)
        self.assertEqual(played([("move", after(move, shift(3, 3, 0))), ("draw", TETRAHEDRON)])[0][0], faces[0])
        self.assertEqual(len(outline(TETRAHEDRON, move)) >= 3, True)

    def test_one_list_handed_in_at_several_places(self):
        row = [(1, 2, 3), (4, 5, 6)]
        rows = [row, row, row]
        coat = ("picture", rows, (0, 0), (2, 0), (0, 3))
        body = (TRIANGLE[0], [(0, 1, 2), (0, 2, 1)])
        deeds = [("coat", coat), ("draw", body), ("coat", coat), ("draw", body)]
        before = copy.deepcopy(deeds)
        things = played(deeds)
        recorder = Recorder()
        for deed in deeds:
            getattr(recorder, deed[0])(*deed[1:])
        for told in (things, recorder.deeds(), recorder.picture((3, 3), GREY)):
            found = lists_in(told)
            self.assertEqual(len({id(one) for one in found}), len(found))
        self.assertEqual(deeds, before)
        picture = recorder.picture((3, 3), GREY)
        row.clear()
        rows.clear()
        self.assertEqual(recorder.picture((3, 3), GREY), picture)
        self.assertEqual(recorder.deeds(), before)
        self.assertEqual(things, played(before))


if __name__ == "__main__":
    unittest.main()

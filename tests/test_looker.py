import copy
import itertools
import random
import unittest
from math import gcd

from onceshade.depths import seen_at
from onceshade.flats import cut, turn
from onceshade.looker import holds
from onceshade.moves import after, faces_seen, look_from, quarter, shift
from helpers import ANY_THINGS, GREATEST, nested
from reckon import depth_reckoned, four_rows_reckoned, has_reckoned, seen_reckoned, standing
from samples import (
    AWAY, BOARD_FACES, CUBE, EDGE_ON, FULL, HERE, NO_BODY_PARTS, ODD, PART_FACES, POINT, SLANTED, TETRAHEDRON, TRIANGLE,
    WHOLE_FACES,
)

HUNDRED = 10 ** 100 - 1
NO_SPOTS = [
    (0, 0, 1, 0), (0, 0, 1, -1), (0, 0, -1, -1), (0, 0, 2, 2), (2, 4, 6, 8), (0, 0, 0, 2), (3, 3, 3, 3), (True, 0, 1, 1),
    (0, False, 1, 1), (0, 0, True, 1), (0, 0, 1, True), [0, 0, 1, 1], (0, 0, 1), (0, 0, 1, 1, 1), (0, 0, 1, "1"), None, 1, "",
    (), (0, 0, 1, None), (0, 0, (1,), 1), ((0, 0, 1, 1),), (0, 0, 0, 0), (-HUNDRED, HUNDRED, HUNDRED, HUNDRED),
]
NO_SPOT_FACES = [None, True, 0, "", "abc", (), [], HERE[:2], HERE + HERE[:1], list(HERE), (HERE,) * 3, [HERE], (1, 2, 3)]
NO_SPOT_FACES += [HERE[:at] + (spot,) + HERE[at + 1:] for spot in NO_SPOTS for at in range(3)]


class Holding(unittest.TestCase):
    def does_hold(self, *paper):
        before = copy.deepcopy(paper)
        self.assertIs(holds(paper), True, paper)
        self.assertEqual(repr(paper), repr(before))

    def does_not_hold(self, *paper):
        before = copy.deepcopy(paper)
        self.assertIs(holds(paper), False, paper)
        self.assertEqual(repr(paper), repr(before))


class AnyThing(Holding):
    GOOD = [
        ("dot", [HERE], (1, 1), 0), ("dot", [], (0, 0), None),
        ("fellows", POINT, []), ("cut", HERE, (1, 0, 0, 0), [HERE]),
    ]

    def test_the_good_ones_hold(self):
        for paper in self.GOOD:
            self.does_hold(*paper)

    def test_any_thing_at_all(self):
        for thing in ANY_THINGS:
            self.assertIs(holds(thing), False)
            self.assertIs(holds((thing,)), False)
            self.assertIs(holds([thing]), False)
            for word in ("dot", "fellows", "cut", thing):
                for many in range(5):
                    self.assertIs(holds((word,) + (thing,) * many), False, (word, thing, many))

    def test_any_thing_in_one_place(self):
        for paper in self.GOOD:
            for at in range(len(paper)):
                for thing in ANY_THINGS:
                    if repr(thing) != repr(paper[at]):
                        self.does_not_hold(*paper[:at], thing, *paper[at + 1:])

    def test_eight_deep(self):
        for depth in range(9):
            for kind in (list, tuple):
                for innermost in (1, None, "dot", True, "", 10 ** 99):
                    self.assertIs(holds(nested(kind, depth, innermost)), False)
                    self.assertIs(holds(("dot", nested(kind, depth, innermost), (0, 0), None)), False)

    def test_another_word_length_or_kind_of_paper(self):
        for paper in self.GOOD:
            self.assertIs(holds(list(paper)), False)
            self.assertIs(holds((paper,)), False)
            self.does_not_hold(*paper, None)
            self.does_not_hold(*paper, [])
            self.does_not_hold(*paper[:-1])
            self.does_not_hold(*paper[1:])
            for word in ("", "Dot", "dots", "Fellows", "fellow", "CUT", "cuts", None, True, 0, ["dot"], ("cut",)):
                self.does_not_hold(word, *paper[1:])
            for other in ("dot", "fellows", "cut"):
                if other != paper[0]:
                    self.does_not_hold(other, *paper[1:])


class Dots(Holding):
    NEAR = ((0, 0, 0, 1), (2, 0, 0, 1), (0, 2, 0, 1))

    def test_the_number_seen(self):
        self.does_hold("dot", [HERE], (1, 1), 0)
        self.does_hold("dot", [HERE, self.NEAR], (0, 1), 1)
        self.does_hold("dot", [HERE, self.NEAR], (2, 1), 0)
        self.does_hold("dot", [HERE, HERE], (1, 1), 0)
        self.does_hold("dot", [EDGE_ON[0], HERE], (1, 1), 1)
        self.does_hold("dot", [HERE], (9, 9), None)
        self.does_hold("dot", EDGE_ON, (1, 1), None)
        self.does_hold("dot", [], (GREATEST, -GREATEST), None)

    def test_a_number_not_seen(self):
        for number in [1, -1, 2, 24, True, False, "0", (0,), [0], GREATEST, 10 ** 99]:
            self.does_not_hold("dot", [HERE], (1, 1), number)
        # Numbers that would be right, if truths were any.
        self.does_not_hold("dot", [EDGE_ON[0], HERE], (1, 1), True)
        for number in [0, 2, -1, True]:
            self.does_not_hold("dot", [HERE, self.NEAR], (0, 1), number)
        self.does_not_hold("dot", [HERE, HERE], (1, 1), 1)
        self.does_not_hold("dot", [HERE], (9, 9), 0)
        self.does_not_hold("dot", [], (0, 0), 0)
        self.does_not_hold("dot", [], (0, 0), False)

    def test_none_where_one_is_seen(self):
        self.does_not_hold("dot", [HERE], (1, 1), None)
        self.does_not_hold("dot", [EDGE_ON[0], HERE], (1, 1), None)

    def test_24_faces_and_25(self):
        faces = [HERE] * 23 + [self.NEAR]
        self.does_hold("dot", faces, (0, 0), 23)
        self.does_not_hold("dot", faces + [HERE], (0, 0), 23)
        self.does_hold("dot", [HERE] * 24, (9, 9), None)
        self.does_not_hold("dot", [HERE] * 25, (9, 9), None)

    def test_what_is_no_face(self):
        for face in NO_SPOT_FACES:
            self.does_not_hold("dot", [face], (9, 9), None)
            self.does_not_hold("dot", [HERE, face], (0, 1), 0)
            self.does_not_hold("dot", [face, HERE], (0, 1), 1)

    def test_what_are_no_faces(self):
        for faces in [(), (HERE,), HERE, None, True, 0, "", [[HERE]], [(HERE,)], list(HERE)]:
            self.does_not_hold("dot", faces, (9, 9), None)

    def test_what_is_no_dot(self):
        for dot in [[9, 9], (9,), (9, 9, 9), (True, 9), (9, False), (9, None), ("9", 9), None, 9, "99", (), ((9, 9),), (9, (9,))]:
            self.does_not_hold("dot", [HERE], dot, None)
            self.does_not_hold("dot", [], dot, None)

    def test_numbers_of_a_hundred_figures(self):
        great = ((-HUNDRED, -HUNDRED, HUNDRED, 1), (HUNDRED, -HUNDRED, 7, 1), (0, HUNDRED, -3, 2))
        self.does_hold("dot", [great], (3, 4), 0)
        self.does_hold("dot", [HERE, great], (1, 1), seen_reckoned([HERE, great], (1, 1)))
        self.does_hold("dot", [great], (HUNDRED, HUNDRED), None)
        self.does_not_hold("dot", [great], (3, 4), None)
        self.does_not_hold("dot", [great], (3, 4), HUNDRED)
        self.does_not_hold("dot", [great[:2] + ((2 * HUNDRED // 3 * 3, 0, 0, 3),)], (HUNDRED, 0), None)

    def test_as_reckoned(self):
        chance = random.Random(33)
        for step in range(60):
            faces = chance.choices(BOARD_FACES + EDGE_ON, k=chance.randint(0, 24))
            dot = (chance.randint(-2, 17), chance.randint(-2, 17))
            seen = seen_reckoned(faces, dot)
            for number in [None] + list(range(-1, 25)):
                self.assertIs(holds(("dot", faces, dot, number)), number == seen)

    def test_of_bodies_seen(self):
        for body in (TETRAHEDRON, CUBE):
            faces = faces_seen(body, after(look_from(9), shift(0, 0, 3)))
            for dot in itertools.product(range(0, 16, 3), repeat=2):
                self.does_hold("dot", faces, dot, seen_at(faces, dot))


def fellows_of(body):
    """Pairs of all sides of a closed body."""
    left = []
    pairs = []
    for at, face in enumerate(body[1]):
        for place in range(3):
            side = (face[place], face[(place + 1) % 3])
            match = [one for one in left if one[1] == side[::-1]]
            if match:
                left.remove(match[0])
                pairs.append((match[0][0], (at, place)))
            else:
                left.append(((at, place), side))
    assert not left
    return pairs


class Fellows(Holding):
    # Twice the same face and twice it turned: closed, and each side has two fellows.
    TWICE = (TRIANGLE[0], [(0, 1, 2), (0, 1, 2), (0, 2, 1), (0, 2, 1)])
    CLOSED = [TETRAHEDRON, CUBE, POINT, TWICE, (TRIANGLE[0], [(0, 1, 2), (2, 1, 0)])]

    def test_example(self):
        body = (TRIANGLE[0], [(0, 1, 2), (0, 2, 1)])
        pairs = [((0, 0), (1, 2)), ((0, 1), (1, 1)), ((0, 2), (1, 0))]
        self.does_hold("fellows", body, pairs)
        for order in itertools.permutations(pairs):
            self.does_hold("fellows", body, list(order))
        self.does_hold("fellows", body, [(other, one) for one, other in pairs])
        self.does_hold("fellows", body, [pairs[0][::-1]] + pairs[1:])

    def test_closed_bodies(self):
        for body in self.CLOSED:
            self.does_hold("fellows", body, fellows_of(body))

    def test_a_side_with_two_fellows_may_have_either(self):
        body = self.TWICE
        self.does_hold("fellows", body, [
            ((0, 0), (2, 2)), ((0, 1), (3, 1)), ((0, 2), (2, 0)), ((1, 0), (3, 2)), ((1, 1), (2, 1)), ((1, 2), (3, 0)),
        ])
        # But each just once.
        self.does_not_hold("fellows", body, [
            ((0, 0), (2, 2)), ((0, 1), (3, 1)), ((0, 2), (2, 0)), ((1, 0), (2, 2)), ((1, 1), (2, 1)), ((1, 2), (3, 0)),
        ])

    def test_no_faces(self):
        self.does_hold("fellows", POINT, [])
        self.does_not_hold("fellows", POINT, [((0, 0), (0, 0))])
        self.does_not_hold("fellows", POINT, ())
        self.does_not_hold("fellows", POINT, None)

    def test_bodies_not_closed(self):
        self.does_not_hold("fellows", TRIANGLE, [])
        self.does_not_hold("fellows", TRIANGLE, [((0, 0), (0, 0)), ((0, 1), (0, 1)), ((0, 2), (0, 2))])
        self.does_not_hold("fellows", ODD, fellows_of(CUBE))
        corners, faces = TETRAHEDRON
        self.does_not_hold("fellows", (corners, faces[:3]), [
            pair for pair in fellows_of(TETRAHEDRON) if pair[0][0] != 3 and pair[1][0] != 3
        ])
        self.does_not_hold("fellows", FULL, [])

    def test_bodies_that_are_none(self):
        for thing in NO_BODY_PARTS:
            self.does_not_hold("fellows", thing, [])
            self.does_not_hold("fellows", thing, fellows_of(TETRAHEDRON))
        pairs = fellows_of(TETRAHEDRON)
        corners, faces = TETRAHEDRON
        for body in [
            (tuple(corners), faces), (corners, tuple(faces)), [corners, faces], (corners, [list(face) for face in faces]),
            (corners[:3] + [(0, 0, True)], faces), (corners[:3] + [(0, 0, 1000000)], faces), (corners[:3], faces),
            (corners + [(0, 0, 0)] * 21, faces), (corners, faces, []),
        ]:
            self.does_not_hold("fellows", body, pairs)

    def test_a_side_twice_or_left_out(self):
        for body in self.CLOSED:
            pairs = fellows_of(body)
            for at in range(len(pairs)):
                self.does_not_hold("fellows", body, pairs[:at] + pairs[at + 1:])
                self.does_not_hold("fellows", body, pairs + [pairs[at]])
                self.does_not_hold("fellows", body, pairs + [pairs[at][::-1]])
                self.does_not_hold("fellows", body, pairs[:at] + [pairs[at - 1]] + pairs[at + 1:] if len(pairs) > 1 else pairs * 2)

    def test_paired_with_one_that_is_not_its_fellow(self):
        for body in (TETRAHEDRON, CUBE):
            pairs = fellows_of(body)
            for at in range(1, len(pairs)):
                (a, b), (c, d) = pairs[at - 1], pairs[at]
                self.does_not_hold("fellows", body, pairs[:at - 1] + [(a, d), (c, b)] + pairs[at + 1:])
                self.does_not_hold("fellows", body, pairs[:at - 1] + [(a, c), (b, d)] + pairs[at + 1:])
        # Alike sides are not fellows.
        self.does_not_hold("fellows", self.TWICE, [
            ((0, 0), (1, 0)), ((0, 1), (1, 1)), ((0, 2), (1, 2)), ((2, 0), (3, 0)), ((2, 1), (3, 1)), ((2, 2), (3, 2)),
        ])
        # All with themselves.
        every = [(face, place) for face in range(4) for place in range(3)]
        self.does_not_hold("fellows", TETRAHEDRON, [(one, one) for one in every])

    def test_places_and_faces_that_are_none(self):
        pairs = fellows_of(TETRAHEDRON)
        for at, pair in enumerate(pairs):
            for end in (0, 1):
                face, place = pair[end]
                for wrong in [
                    (face, 3), (face, -1), (face, place - 3), (face, place + 3), (4, place), (-1, place), (face - 4, place),
                    (face,), (face, place, 0), [face, place], None, face, "", (face, None), (str(face), place), (face, str(place)),
                    (face, bool(place)) if place < 2 else True, (bool(face), place) if face < 2 else False, ((face, place),),
                    (GREATEST, place), (face, GREATEST), (HUNDRED, HUNDRED), ((face,), place), (face, [place]),
                ]:
                    changed = (wrong, pair[1]) if end == 0 else (pair[0], wrong)
                    self.does_not_hold("fellows", TETRAHEDRON, pairs[:at] + [changed] + pairs[at + 1:])

    def test_lists_for_tuples_and_tuples_for_lists(self):
        pairs = fellows_of(TETRAHEDRON)
        self.does_not_hold("fellows", TETRAHEDRON, tuple(pairs))
        self.does_not_hold("fellows", TETRAHEDRON, [list(pair) for pair in pairs])
        self.does_not_hold("fellows", TETRAHEDRON, pairs[:-1] + [list(pairs[-1])])
        self.does_not_hold("fellows", TETRAHEDRON, pairs[:-1] + [pairs[-1] + ((0, 0),)])
        self.does_not_hold("fellows", TETRAHEDRON, pairs[:-1] + [pairs[-1][:1]])
        for thing in [None, True, 0, "", (), [], "ab", nested(list, 4, 1), nested(tuple, 4, 1)]:
            self.does_not_hold("fellows", TETRAHEDRON, thing)
            self.does_not_hold("fellows", TETRAHEDRON, pairs + [thing])
            self.does_not_hold("fellows", TETRAHEDRON, pairs[:-1] + [thing])
            self.does_not_hold("fellows", TETRAHEDRON, pairs[:-1] + [(pairs[-1][0], thing)])


def worth_reckoned(flat, place):
    return sum(one * other for one, other in zip(flat, place)) + flat[3]


def cut_reckoned(face, flat, pieces):
    """Whether pieces are those of a face cut, dot by dot, by Python's fractions."""
    sign = (turn(face) > 0) - (turn(face) < 0)
    for piece in pieces:
        if turn(piece) * sign < 0 or (sign == 0 and turn(piece) != 0):
            return False
        for corner in piece:
            if four_rows_reckoned(list(face) + [corner]) != 0 or worth_reckoned(flat, standing(corner)) < 0:
                return False
    for dot in itertools.product(range(16), repeat=2):
        many = sum(has_reckoned(piece, dot) for piece in pieces)
        allowed = [0]
        if has_reckoned(face, dot):
            worth = worth_reckoned(flat, (dot[0], dot[1], depth_reckoned(face, dot)))
            allowed = [1] if worth > 0 else [0] if worth < 0 else [0, 1]
        if many not in allowed:
            return False
    return True


def split(face):
    """A face as three, about the middle of it."""
    a, b, c = face
    x, y, z = [sum(parts) / 3 for parts in zip(*[standing(corner) for corner in face])]
    bottom = x.denominator * y.denominator * z.denominator
    numbers = [int(number * bottom) for number in (x, y, z)] + [bottom]
    middle = tuple(number // gcd(*numbers) for number in numbers)
    return [(a, b, middle), (b, c, middle), (c, a, middle)]


class Cuts(Holding):
    FLATS = [(1, 0, 0, -3), (-1, 0, 0, 3), (0, 1, 0, -2), (1, 1, 0, -5), (2, -3, 1, 1), (0, 0, 1, -1), (1, 0, 0, 40), (1, 0, 0, -400)]

    def test_what_cut_tells_holds(self):
        for face in WHOLE_FACES + PART_FACES + EDGE_ON[:6]:
            for flat in self.FLATS:
                self.does_hold("cut", face, flat, cut(face, flat))

    def test_whole_none_and_both_sides(self):
        self.does_hold("cut", HERE, (1, 0, 0, 0), [HERE])
        self.does_hold("cut", HERE, (1, 0, 0, 100), [HERE])
        self.does_hold("cut", HERE, (1, 0, 0, -100), [])
        self.does_not_hold("cut", HERE, (1, 0, 0, 0), [])
        self.does_not_hold("cut", HERE, (1, 0, 0, -100), [HERE])
        flat, back = (1, 0, 0, -2), (-1, 0, 0, 2)
        self.does_hold("cut", HERE, flat, cut(HERE, flat))
        self.does_hold("cut", HERE, back, cut(HERE, back))
        self.does_not_hold("cut", HERE, flat, cut(HERE, back))
        self.does_not_hold("cut", HERE, flat, cut(HERE, flat) + cut(HERE, back))

    def test_any_many_pieces_told_otherwise(self):
        for face in [HERE, AWAY, SLANTED, WHOLE_FACES[4], PART_FACES[1]]:
            for flat in self.FLATS:
                pieces = cut(face, flat)
                self.does_hold("cut", face, flat, pieces[::-1])
                self.does_hold("cut", face, flat, [piece[1:] + piece[:1] for piece in pieces])
                finer = [part for piece in pieces for part in split(piece)]
                self.does_hold("cut", face, flat, finer)
                finest = [part for piece in finer for part in split(piece)]
                self.does_hold("cut", face, flat, finest)
        many = [HERE]
        for step in range(4):
            many = [part for piece in many for part in split(piece)]
        self.does_hold("cut", HERE, (1, 0, 0, 0), many)
        self.does_not_hold("cut", HERE, (1, 0, 0, 0), many[:-1] + [HERE])

    def test_pieces_that_cover_the_dots_by_chance(self):
        # Not the face's own part, but the same dots of the board: that will do.
        one_dot = ((0, 0, 1, 1), (1, 0, 1, 1), (0, 1, 1, 1))
        self.does_hold("cut", one_dot, (1, 1, 0, 5), [((0, 0, 1, 1), (1, 0, 2, 2), (0, 1, 2, 2))])
        self.does_hold("cut", one_dot, (1, 1, 0, 5), [((-5, 0, 1, 1), (1, 0, 1, 1), (0, 1, 1, 1))])
        # Beyond the board nothing is looked at.
        far = ((100, 100, 0, 1), (110, 100, 0, 1), (100, 110, 0, 1))
        self.does_hold("cut", far, (1, 0, 0, 0), [])
        self.does_hold("cut", far, (1, 0, 0, 0), [far])
        self.does_hold("cut", far, (1, 0, 0, 0), [far, far])

    def test_pieces_edge_on_are_let_by(self):
        edge = ((0, 0, 1, 1), (2, 2, 1, 1), (4, 4, 1, 1))
        self.does_hold("cut", HERE, (1, 0, 0, 0), [HERE, edge])
        self.does_hold("cut", AWAY, (1, 0, 0, 0), [edge, AWAY, edge])
        self.does_hold("cut", HERE, (1, 0, 0, 0), [((0, 0, 1, 1),) * 3, HERE])
        # But not where they are out of the flat, or have a worth below 0.
        self.does_not_hold("cut", HERE, (1, 0, 0, 0), [HERE, ((0, 0, 1, 1), (2, 2, 2, 1), (4, 4, 1, 1))])
        self.does_not_hold("cut", HERE, (1, 0, 0, -1), cut(HERE, (1, 0, 0, -1)) + [edge])

    def test_a_face_edge_on(self):
        for face in EDGE_ON:
            self.does_hold("cut", face, (0, 0, 1, 0), [])
            # In one line on the board, all of its spots are in its flat.
            self.does_hold("cut", face, (1, 1, 1, 10 ** 14), [face, face])
            self.does_not_hold("cut", face, (1, 1, 1, 10 ** 14), [face, HERE])
        self.does_not_hold("cut", EDGE_ON[0], (0, 0, 1, -1), [EDGE_ON[0]])
        # With all spots in one line in space, any spot is in its flat; turned as it is are only those edge on.
        line = ((0, 0, 0, 1), (1, 1, 1, 1), (2, 2, 2, 1))
        self.does_hold("cut", line, (0, 0, 1, 0), [EDGE_ON[0]])
        self.does_not_hold("cut", line, (0, 0, 1, 0), [HERE])

    def test_out_of_the_flat(self):
        self.does_not_hold("cut", HERE, (1, 0, 0, 0), [((0, 0, 2, 1), (4, 0, 2, 1), (0, 4, 2, 1))])
        for at in range(3):
            x, y, z, w = HERE[at]
            self.does_not_hold("cut", HERE, (1, 0, 0, 0), [HERE[:at] + ((x, y, z + 1, w),) + HERE[at + 1:]])
        a, b, c = SLANTED
        self.does_hold("cut", SLANTED, (1, 0, 0, 0), [(a, b, c)])
        self.does_not_hold("cut", SLANTED, (1, 0, 0, 0), [(a, b, (0, 6, -5, 1))])

    def test_a_worth_below_0(self):
        flat = (1, 0, 0, -2)
        self.does_not_hold("cut", HERE, flat, [HERE])
        piece = cut(HERE, flat)[0]
        self.does_hold("cut", HERE, flat, [piece])
        for at in range(3):
            x, y, z, w = piece[at]
            # Next to nothing beyond it: no dot more is had.
            beyond = (2 * 10 ** 9 - 1, y * 10 ** 9, z * 10 ** 9, 10 ** 9)
            self.does_not_hold("cut", HERE, flat, [piece[:at] + (beyond,) + piece[at + 1:]])

    def test_turned_otherwise(self):
        for face in [HERE, AWAY, SLANTED]:
            self.does_not_hold("cut", face, (1, 0, 0, 0), [face[::-1]])
            pieces = split(face)
            self.does_hold("cut", face, (1, 0, 0, 0), pieces)
            for at in range(3):
                self.does_not_hold("cut", face, (1, 0, 0, 0), pieces[:at] + [pieces[at][::-1]] + pieces[at + 1:])

    def test_over_one_another_and_too_few(self):
        for flat in [(1, 0, 0, 0), (1, 0, 0, -1), (0, 1, 0, -1)]:
            pieces = cut(HERE, flat)
            self.does_not_hold("cut", HERE, flat, pieces + pieces)
            self.does_not_hold("cut", HERE, flat, pieces + [pieces[0]])
            self.does_not_hold("cut", HERE, flat, [])
        big = WHOLE_FACES[4]
        pieces = split(big)
        self.does_hold("cut", big, (1, 0, 0, 99), pieces)
        for at in range(3):
            self.does_not_hold("cut", big, (1, 0, 0, 99), pieces[:at] + pieces[at + 1:])
            self.does_not_hold("cut", big, (1, 0, 0, 99), pieces + [pieces[at]])

    def test_a_dot_that_the_face_does_not_have(self):
        wider = ((0, 0, 1, 1), (5, 0, 1, 1), (0, 5, 1, 1))
        self.does_not_hold("cut", HERE, (1, 0, 0, 0), [wider])
        # Also where the worth at its place is 0: the dots told are dots of the face.
        just_one = ((6, 0, 1, 1), (7, 0, 1, 1), (6, 1, 1, 1))
        self.does_not_hold("cut", HERE, (0, 1, 0, 0), [HERE, just_one])

    def test_dots_of_a_worth_0_may_be_there_or_not_but_none_twice(self):
        # The dots in the column of x = 2 have a worth 0.
        flat = (1, 0, 0, -2)
        piece = cut(HERE, flat)[0]
        self.assertTrue(has_reckoned(piece, (2, 0)))
        # From a bit right of it on: the column is not had.
        right = ((5, 0, 2, 2), (4, 0, 1, 1), (5, 3, 2, 2))
        self.assertFalse(has_reckoned(right, (2, 0)))
        self.does_hold("cut", HERE, flat, [piece])
        self.does_hold("cut", HERE, flat, [right])
        self.does_not_hold("cut", HERE, flat, [piece, right])
        # One of the column's dots twice, and no other dot.
        one = ((2, 0, 1, 1), (5, 0, 2, 2), (2, 1, 1, 1))
        self.does_not_hold("cut", HERE, flat, [piece, one])
        self.does_hold("cut", HERE, flat, [right, one])
        self.does_not_hold("cut", HERE, flat, [right, one, one])
        # On the other side of the flat the column is had by none of the pieces.
        back = (-1, 0, 0, 2)
        self.assertFalse([part for part in cut(HERE, back) if has_reckoned(part, (2, 0))])
        self.does_hold("cut", HERE, back, cut(HERE, back))

    def test_a_worth_that_hangs_on_the_depth(self):
        for flat in [(0, 0, 1, 0), (0, 0, 1, -3), (0, 0, -1, 3), (1, 0, -1, 0)]:
            self.does_hold("cut", SLANTED, flat, cut(SLANTED, flat))
            self.assertIs(holds(("cut", SLANTED, flat, [SLANTED])), cut_reckoned(SLANTED, flat, [SLANTED]))

    def test_kinds(self):
        for thing in NO_SPOT_FACES:
            self.does_not_hold("cut", thing, (1, 0, 0, 0), [])
            self.does_not_hold("cut", thing, (1, 0, 0, 0), [thing])
            self.does_not_hold("cut", HERE, (1, 0, 0, 0), [thing])
            self.does_not_hold("cut", HERE, (1, 0, 0, 0), [HERE, thing])
        for thing in [(HERE,), HERE, None, True, "", (), [[HERE]], [list(HERE)], list(HERE), ((HERE,),)]:
            self.does_not_hold("cut", HERE, (1, 0, 0, 0), thing)
            self.does_not_hold("cut", HERE, (1, 0, 0, -100), thing)

    def test_flats_that_are_none(self):
        for flat in [
            (0, 0, 0, 0), (0, 0, 0, 5), (0, 0, 0, -5), (1, 0, 0), (1, 0, 0, 0, 0), [1, 0, 0, 0], (True, 0, 0, 0), (1, 0, 0, False),
            (1, 0, 0, "0"), (1, 0, 0, None), None, True, 1, "", (), ((1, 0, 0, 0),), (False, False, False, 0),
        ]:
            self.does_not_hold("cut", HERE, flat, [HERE])
            self.does_not_hold("cut", HERE, flat, [])
            self.does_not_hold("cut", EDGE_ON[0], flat, [])

    def test_numbers_of_a_hundred_figures(self):
        great = ((-HUNDRED, -HUNDRED, HUNDRED, 1), (HUNDRED, -HUNDRED, 7, 1), (0, HUNDRED, -3, 1))
        for flat in [(1, 0, 0, -3), (HUNDRED, 1, 0, -HUNDRED * 5), (1, 0, 0, HUNDRED), (-HUNDRED, -HUNDRED, 1, 16 * HUNDRED)]:
            pieces = cut(great, flat)
            self.assertTrue(pieces)
            self.does_hold("cut", great, flat, pieces)
            self.does_not_hold("cut", great, flat, [])
            self.does_not_hold("cut", great, flat, pieces + pieces)

    def test_as_reckoned(self):
        chance = random.Random(34)
        found = []
        for step in range(120):
            face = chance.choice(WHOLE_FACES[:10] + PART_FACES + [AWAY])
            flat = chance.choice(self.FLATS)
            pieces = cut(face, flat)
            for change in range(chance.randint(0, 2)):
                kind = chance.randint(0, 4)
                if kind == 0 and pieces:
                    pieces.pop(chance.randrange(len(pieces)))
                elif kind == 1 and pieces:
                    pieces += split(pieces.pop())
                elif kind == 2:
                    pieces.append(chance.choice([face] + EDGE_ON))
                elif kind == 3 and pieces:
                    pieces.append(pieces.pop(0)[::chance.choice((1, -1))])
                elif pieces:
                    a, b, c = pieces.pop()
                    pieces.append((a, b, chance.choice([a, b, (3, 3, 3, 1), face[2]])))
            expected = cut_reckoned(face, flat, pieces)
            self.assertIs(holds(("cut", face, flat, pieces)), expected, (face, flat, pieces))
            found.append(expected)
        self.assertGreater(found.count(True), 30)
        self.assertGreater(found.count(False), 30)

    def test_of_bodies_seen(self):
        for move in (after(look_from(9), shift(0, 0, 3)), after(quarter(1), shift(-9, 0, 0))):
            for face in faces_seen(TETRAHEDRON, move):
                for flat in self.FLATS:
                    self.does_hold("cut", face, flat, cut(face, flat))


if __name__ == "__main__":
    unittest.main()

"""Bodies, spots and moves that several test files ask about."""

from helpers import ANY_THINGS, GREATEST

# A tetrahedron, closed: each side stands once, and its fellow once.
TETRAHEDRON = ([(0, 0, 0), (4, 0, 0), (0, 4, 0), (0, 0, 4)], [(0, 1, 2), (0, 3, 1), (0, 2, 3), (1, 3, 2)])

CUBE = (
    [(0, 0, 2), (3, 0, 2), (3, 3, 2), (0, 3, 2), (0, 0, 5), (3, 0, 5), (3, 3, 5), (0, 3, 5)],
    [
        (0, 1, 2), (0, 2, 3), (4, 6, 5), (4, 7, 6), (0, 5, 1), (0, 4, 5),
        (1, 6, 2), (1, 5, 6), (2, 7, 3), (2, 6, 7), (3, 4, 0), (3, 7, 4),
    ],
)

POINT = ([(7, -7, 999999)], [])
TRIANGLE = ([(0, 0, 1), (4, 0, 1), (0, 4, 1)], [(0, 1, 2)])
# The same list of corners and of faces: both are new in what is told.
TWICE_ONE_LIST = [(0, 1, 2), (1, 2, 0), (2, 0, 1)]
ODD = (TWICE_ONE_LIST, TWICE_ONE_LIST)

FULL = (
    [(at, -at, 999999 - at) for at in range(24)],
    [(at, (at + 1) % 24, (at + 2) % 24) for at in range(24)],
)

BODIES = [TETRAHEDRON, CUBE, POINT, TRIANGLE, ODD, FULL]

SPOTS = [
    (0, 0, 0, 1), (1, 0, 0, 1), (0, 1, 0, 1), (0, 0, 1, 1), (3, -4, 5, 1), (-3, 4, 7, 2), (1, 2, 3, 4), (-7, 5, 0, 6),
    (GREATEST, -GREATEST, 1, GREATEST - 1), (5, 5, GREATEST, 1),
]

STILL = ((1, 0, 0, 0), (0, 1, 0, 0), (0, 0, 1, 0), (0, 0, 0, 1))
MOVES = [
    STILL,
    ((1, 0, 0, 5), (0, 1, 0, -6), (0, 0, 1, 7), (0, 0, 0, 1)),
    ((0, -1, 0, 0), (1, 0, 0, 0), (0, 0, 1, 0), (0, 0, 0, 1)),
    ((1, 3, 0, 0), (0, 1, 0, 0), (0, 0, 1, 0), (0, 0, 0, 1)),
    ((2, 0, 0, 0), (0, -3, 0, 0), (0, 0, 5, 0), (0, 0, 0, 1)),
    ((8, 0, 0, 0), (0, 8, 0, 0), (0, 0, 1, -1), (0, 0, 1, 0)),
    ((1, 2, 3, 4), (-5, 6, -7, 8), (9, -10, 11, 12), (13, 14, -15, 16)),
    ((0, 0, 0, 0), (0, 0, 0, 0), (0, 0, 0, 0), (0, 0, 0, 3)),
    ((GREATEST, 1, -GREATEST, 2), (3, GREATEST, 5, -GREATEST), (GREATEST, -1, 2, GREATEST), (1, 2, GREATEST, GREATEST)),
]

BOARDS = [(1, 1), (16, 16), (1, 16), (16, 1), (5, 4), (4, 5), (7, 16)]
NO_BOARDS = [
    (0, 4), (4, 0), (17, 4), (4, 17), (-1, 4), (4, -1), (True, 4), (4, True), (False, 4), [4, 4], (4,), (4, 4, 4),
    4, "44", ("4", 4), (4, None), (GREATEST, 4), ((4, 4),), ([4], 4), None, True, (), [],
]
SIDES = list(range(1, 17))
NO_SIDES = [thing for thing in ANY_THINGS if type(thing) is not int or thing not in SIDES]
NO_SIDES += [0, 17, -1, 18, True, False, None, "4", [4], (4,), (4, 4)]
NO_LIGHTS = [thing for thing in ANY_THINGS if thing != (1, 2, 3)] + [
    (0, 0, 0), (True, 0, 0), (0, 0, True), (1, False, 1), (False, False, False), [1, 2, 3], [0, 0, 0], (1, 2), (1, 2, 3, 4),
    (1,), (), 5, "123", (1, 2, "3"), (None, 1, 1), ((1, 2, 3),), ([1], 2, 3), (1, (2,), 3),
]

# Faces on the board; those of the first row are told by whole places.
HERE = ((0, 0, 1, 1), (4, 0, 1, 1), (0, 4, 1, 1))
AWAY = ((0, 0, 1, 1), (0, 4, 1, 1), (4, 0, 1, 1))
BEYOND_HERE = ((4, 4, 1, 1), (0, 4, 1, 1), (4, 0, 1, 1))
SLANTED = ((0, 0, 0, 1), (6, 0, 6, 1), (0, 6, -6, 1))
WHOLE_FACES = [
    HERE, AWAY, BEYOND_HERE, SLANTED,
    ((0, 0, 5, 1), (16, 0, 3, 1), (0, 16, 4, 1)),
    ((-20, -20, 7, 1), (40, -20, 9, 1), (-20, 40, -8, 1)),
    ((3, 1, 0, 1), (3, 6, 0, 1), (9, 6, 2, 1)),
    ((2, 2, 0, 1), (9, 3, 1, 1), (5, 11, -2, 1)),
    ((-3, 1, 2, 1), (3, 1, 2, 1), (0, -5, -4, 1)),
    ((7, 0, 1, 1), (0, 7, 1, 1), (15, 15, 1, 1)),
    ((100, 100, 0, 1), (110, 100, 0, 1), (100, 110, 0, 1)),
    ((-9, 2, 0, 1), (30, 2, 0, 1), (30, 3, 5, 1)),
]
PART_FACES = [
    ((1, 1, 0, 2), (7, 2, 1, 3), (-5, 9, 2, 4)),
    ((1, 1, 3, 2), (31, 1, 3, 2), (1, 31, 3, 2)),
    ((1, 1, 1, 3), (2, 1, 1, 3), (1, 2, 1, 3)),
    ((8, 9, 5, 4), (9, 8, 5, 4), (7, 7, 5, 4)),
    ((0, 0, 1, 2), (32, 0, 1, 3), (0, 64, 1, 5)),
    ((6, 6, -1, 2), (12, 3, -7, 1), (45, 50, 11, 5)),
    ((-1, -1, 2, 7), (113, 3, 5, 7), (2, 99, -9, 7)),
]
GREAT_FACES = [
    ((GREATEST, 0, 1, 1), (0, GREATEST, 2, 1), (-GREATEST, -GREATEST, GREATEST, 2)),
    ((-GREATEST, -GREATEST, 5, 1), (GREATEST, -GREATEST, 7, 1), (0, GREATEST, -3, 1)),
    ((1, 0, 0, GREATEST), (0, 1, -1, GREATEST), (GREATEST, GREATEST, 1, GREATEST - 1)),
    ((0, 0, 0, 1), (GREATEST, GREATEST - 1, 1, 1), (GREATEST - 1, GREATEST, 2, 1)),
    ((0, 0, 0, 1), (10 ** 40, 3, 1, 1), (5, 10 ** 40 + 1, 2, 10 ** 39)),
    ((-10 ** 30, 8, 4, 7), (10 ** 30, 7, 9, 8), (10 ** 30, 10 ** 30, 1, 10 ** 29)),
    ((GREATEST, 5, 0, 1), (GREATEST, 9, 0, 1), (GREATEST - 7, 7, 0, 1)),
    ((5, GREATEST, 0, 1), (9, -GREATEST, 0, 1), (7, GREATEST, 0, 1)),
]
EDGE_ON = [
    ((0, 0, 0, 1), (2, 2, 5, 1), (4, 4, 0, 1)),
    ((1, 2, 5, 1), (2, 4, 1, 2), (7, 7, 7, 1)),
    ((3, 3, 0, 1), (3, 3, 5, 1), (3, 3, 9, 1)),
    ((3, 3, 0, 1),) * 3,
    ((0, 0, 0, 1), (0, 0, 0, 1), (9, 5, 0, 1)),
    ((0, 4, 0, 1), (16, 4, 1, 1), (7, 4, 5, 1)),
    ((4, 0, 0, 1), (4, 16, 1, 1), (4, 7, 5, 1)),
    ((-GREATEST, -GREATEST, 0, 1), (1, 1, 7, 1), (GREATEST, GREATEST, 0, 2)),
]
BOARD_FACES = WHOLE_FACES + PART_FACES + GREAT_FACES

RED, GREEN, BLUE = (255, 0, 0), (0, 255, 0), (0, 0, 255)
# Rows of unlike colours: each tells where it stands, row first.
SIX = [[(row, place, 200) for place in range(6)] for row in range(6)]
COATS = [
    ("plain", (7, 0, 255)), ("plain", (0, 0, 0)), ("plain", (255, 255, 255)),
    ("woven", (255, 0, 10), (0, 255, 20), (3, 4, 250)), ("woven", RED, RED, RED),
    ("woven", (0, 0, 0), (255, 255, 255), (1, 2, 3)),
    ("picture", SIX, (0, 0), (6, 0), (0, 6)),
    ("picture", [[RED]], (0, 0), (0, 0), (0, 0)),
    ("picture", [[RED, GREEN, BLUE]], (-3, -3), (5, 1), (1, 5)),
    ("picture", [[RED], [GREEN], [BLUE]], (-3, -3), (5, 1), (1, 5)),
    ("picture", SIX, (GREATEST, -GREATEST), (-GREATEST, GREATEST), (3, 3)),
]

# What is no move, no coat, no cover: any thing, and what is nearly one.
NO_MOVES = ANY_THINGS + [
    list(STILL), STILL[:3], STILL + (STILL[0],), STILL[:3] + ([0, 0, 0, 1],), STILL[:3] + ((0, 0, 0),),
    STILL[:3] + ((0, 0, 0, 1, 0),), STILL[:3] + ((0, 0, 0, True),), STILL[:3] + ((0, 0, False, 1),),
    STILL[:3] + ((0, 0, 0, "1"),), STILL[:3] + ((0, 0, 0, None),), STILL[:3] + (None,), (STILL,) * 4, (1,) * 16, ((1,) * 16,),
    ((), (), (), ()), ((1, 0, 0, (0,)),) + STILL[1:],
]
NO_COLOURS = ANY_THINGS[:10] + [
    (), (1, 2), (1, 2, 3, 4), [1, 2, 3], (256, 0, 0), (0, 256, 0), (0, 0, 256), (-1, 0, 0), (0, -1, 0), (0, 0, -1),
    (True, 0, 0), (0, False, 0), (0, 0, True), (0, 0, "0"), (0, 0, None), (0, 0, (0,)), "ff0000", ((1, 2, 3),),
]
UVS = ((0, 0), (1, 0), (0, 1))
NO_COAT_ROWS = [
    [], [[]], [[], []], [[RED], []], [[], [RED]], [[RED, RED], [RED]], [[RED], [RED, RED]], [[RED]] * 7, [[RED] * 7],
    [[RED] * 6] * 7, [[RED] * 7] * 6, ([RED],), [(RED,)], [[RED], (RED,)], [[[255, 0, 0]]], [RED], RED, None, True, 1, "", "a",
    [[RED], None], [None, [RED]], [[RED], 1], ["a"], [[RED], "a"], [["a"]], [[[RED]]], [[RED]] * 500,
]
NO_COATS = ANY_THINGS + [
    ("plain",), ("plain", RED, RED), ["plain", RED], ("Plain", RED), ("", RED), (None, RED), (["plain"], RED), RED, (RED,),
    ("plain ", RED), ("woven", RED), ("woven", RED, RED), ("woven", RED, RED, RED, RED), ["woven", RED, RED, RED],
    ("woven", (RED, RED, RED)), ("woven", [RED, RED, RED]), ("picture",), ("picture", [[RED]]), ["picture", [[RED]], *UVS],
    ("picture", [[RED]], *UVS[:2]), ("picture", [[RED]], *UVS, (0, 0)), ("picture", [[RED]], UVS), (True, RED),
    ("picture", *UVS, [[RED]]), ("other", RED), ("other", [[RED]], *UVS), ("woven", [[RED]], *UVS), ("plain", [[RED]], *UVS),
]
for colour in NO_COLOURS:
    NO_COATS += [
        ("plain", colour), ("woven", colour, RED, RED), ("woven", RED, colour, RED), ("woven", RED, RED, colour),
        ("picture", [[colour]], *UVS), ("picture", [[RED, RED], [RED, colour]], *UVS),
    ]
NO_COATS += [("picture", rows, *UVS) for rows in NO_COAT_ROWS]
for pair in [None, True, 0, "00", (), (0,), (0, 0, 0), [0, 0], (True, 0), (0, False), (0, None), ("0", 0), ((0, 0),), (0, (0,))]:
    NO_COATS += [
        ("picture", [[RED]], *UVS[:place], pair, *UVS[place + 1:]) for place in range(3)
    ]
NO_COVERS = [thing for thing in ANY_THINGS if type(thing) is not int or not 0 <= thing <= 8] + [
    -1, 9, 10, True, False, "8", [8], (8,), 10 ** 400, -10 ** 400,
]
NO_BODY_PARTS = ANY_THINGS + [
    list(TRIANGLE), TRIANGLE + ([],), (TRIANGLE[0],), ([], []), ([], [(0, 1, 2)]), (tuple(TRIANGLE[0]), TRIANGLE[1]),
    (TRIANGLE[0], tuple(TRIANGLE[1])), (TRIANGLE[0], [(0, 1, 3)]), (TRIANGLE[0], [(0, 1, 1)]), (TRIANGLE[0], [(0, 1, -1)]),
    (TRIANGLE[0], [(0, 1, True)]), (TRIANGLE[0], [[0, 1, 2]]), ([(0, 0, 1000000)], []), ([(0, 0, -1000000)], []),
    ([(0, 0)], []), ([(0, 0, True)], []), ([[0, 0, 0]], []), ([(0, 0, 0)] * 25, []), (TRIANGLE[0], [(0, 1, 2)] * 25), "0 0 0:",
]
# Neither a deed nor one with a part that is not of its kind; what is nearly one is among these.
NO_DEEDS = ANY_THINGS + [
    "push", ["push"], ("push", "push"), ("push", None), ("push", ()), ("Push",), ("push ",), ("",), (None,), (["push"],),
    (("push",),), ("pop", 1), ["pop"], ("move",), ("move", STILL, STILL), ["move", STILL], ("moves", STILL), (STILL, "move"),
    ("coat",), ("coat", ("plain", RED), ("plain", RED)), ["coat", ("plain", RED)], ("coat", "plain", RED), ("plain", RED),
    ("cover",), ("cover", 8, 8), ["cover", 8], ("Cover", 8), (8, "cover"), (None, 8), ("cover", "8"), ("draw",),
    ("draw", TRIANGLE, TRIANGLE), ["draw", TRIANGLE], ("draw", *TRIANGLE), ("Draw", TRIANGLE), (True, TRIANGLE), TRIANGLE,
    ("undo",), ("count",), ("dot", 1), (["draw"], TRIANGLE), (("draw",), TRIANGLE), ("", STILL), STILL, ("push", "pop"),
    (), ("move", None), ("push",) * 60,
]

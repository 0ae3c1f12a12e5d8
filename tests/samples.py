"""Bodies, spots and moves that several test files ask about."""

from helpers import GREATEST

# A tetrahedron, closed: each side stands once, and its fellow once.
TETRAHEDRON = ([(0, 0, 0), (4, 0, 0), (0, 4, 0), (0, 0, 4)], [(0, 1, 2), (0, 3, 1), (0, 2, 3), (1, 3, 2)])

CUBE = (
    [(0, 0, 2), (3, 0, 2), (3, 3, 2), (0, 3, 2), (0, 0, 5), (3, 0, 5), (3, 3, 5), (0, 3, 5)],
    [
        (0, 1, 2), (0, 2, 3), (4, 6, 5), (4, 7, 6), (0, 5, 1), (0, 4, 5),
        (1, 6, 2), (1, 5, 6), (2, 7, 3), (2, 6, 7), (3, 4, 0), (3, 7, 4),
    ],
)

POINT = ([(7, -7, 999999)], [])
TRIANGLE = ([(0, 0, 1), (4, 0, 1), (0, 4, 1)], [(0, 1, 2)])
# The same list of corners and of faces: both are new in what is told.
TWICE_ONE_LIST = [(0, 1, 2), (1, 2, 0), (2, 0, 1)]
ODD = (TWICE_ONE_LIST, TWICE_ONE_LIST)

FULL = (
    [(at, -at, 999999 - at) for at in range(24)],
    [(at, (at + 1) % 24, (at + 2) % 24) for at in range(24)],
)

BODIES = [TETRAHEDRON, CUBE, POINT, TRIANGLE, ODD, FULL]

SPOTS = [
    (0, 0, 0, 1), (1, 0, 0, 1), (0, 1, 0, 1), (0, 0, 1, 1), (3, -4, 5, 1), (-3, 4, 7, 2), (1, 2, 3, 4), (-7, 5, 0, 6),
    (GREATEST, -GREATEST, 1, GREATEST - 1), (5, 5, GREATEST, 1),
]

STILL = ((1, 0, 0, 0), (0, 1, 0, 0), (0, 0, 1, 0), (0, 0, 0, 1))
MOVES = [
    STILL,
    ((1, 0, 0, 5), (0, 1, 0, -6), (0, 0, 1, 7), (0, 0, 0, 1)),
    ((0, -1, 0, 0), (1, 0, 0, 0), (0, 0, 1, 0), (0, 0, 0, 1)),
    ((1, 3, 0, 0), (0, 1, 0, 0), (0, 0, 1, 0), (0, 0, 0, 1)),
    ((2, 0, 0, 0), (0, -3, 0, 0), (0, 0, 5, 0), (0, 0, 0, 1)),
    ((8, 0, 0, 0), (0, 8, 0, 0), (0, 0, 1, -1), (0, 0, 1, 0)),
    ((1, 2, 3, 4), (-5, 6, -7, 8), (9, -10, 11, 12), (13, 14, -15, 16)),
    ((0, 0, 0, 0), (0, 0, 0, 0), (0, 0, 0, 0), (0, 0, 0, 3)),
    ((GREATEST, 1, -GREATEST, 2), (3, GREATEST, 5, -GREATEST), (GREATEST, -1, 2, GREATEST), (1, 2, GREATEST, GREATEST)),
]

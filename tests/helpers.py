"""What several test files share."""

import copy

GREATEST = 10 ** 12 - 1


def nested(kind, depth, innermost):
    """The innermost thing within so many lists or tuples."""
    thing = innermost
    for step in range(depth):
        thing = kind([thing])
    return thing


# Any thing, as the document's point 2 tells it; none of these is a board, a flat or a body.
ANY_THINGS = [
    None, True, False, 0, 1, -1, 2, 17, GREATEST, -GREATEST,
    "", "1", "a b\n\t~", [], (), [1], (1,), [1, 2], [1, 2, 3, 4], (1, 2, 3), (None, None),
    ("1", "2"), ([1], [2]), ((1, 2), (3, 4)), ([], []), [[], []], (True, True), (False, False, False, False),
    (0, 0, 0, 0), (None, 1, 1, 1), ("", "", "", ""), ([], [], [], []), (1, 2, 3, 4, 5),
    nested(list, 8, 1), nested(tuple, 8, 1), nested(list, 7, None), nested(tuple, 7, ""),
    [0] * 2999, tuple([0] * 2999), [[None]] * 1400, "x" * 3000,
]


def refused(case, kind, function, *arguments):
    """The call is refused with just this kind, and what was handed in stays."""
    before = copy.deepcopy(arguments)
    with case.assertRaises(kind) as caught:
        function(*arguments)
    case.assertIs(type(caught.exception), kind)
    case.assertEqual(repr(arguments), repr(before))


def is_tuple_of_whole(value, many):
    return type(value) is tuple and len(value) == many and all(type(part) is int for part in value)


def lists_in(value):
    """All lists within a value, itself too, each as often as it stands there."""
    found = [value] if isinstance(value, list) else []
    if isinstance(value, (list, tuple)):
        for part in value:
            found += lists_in(part)
    return found


def asks_again(case, function, *arguments):
    """What is told is the asker's own, list by list, and what is handed in stays; tells what was told."""
    before = copy.deepcopy(arguments)
    first = function(*arguments)
    expected = copy.deepcopy(first)
    handed = {id(part) for part in lists_in(arguments)}
    many = len(lists_in(first))
    for at in range(many):
        told = function(*arguments)
        own = lists_in(told)
        case.assertEqual(len({id(part) for part in own}), len(own))
        case.assertFalse(handed & {id(part) for part in own})
        own[at].append("changed")
        own[at].reverse()
        case.assertEqual(function(*arguments), expected)
        own[at].clear()
        case.assertEqual(function(*arguments), expected)
    case.assertEqual(first, expected)
    case.assertEqual(repr(arguments), repr(before))
    return first

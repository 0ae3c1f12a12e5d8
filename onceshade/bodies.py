"""Bodies: corners in space and three-cornered faces [7, 8, 9]."""

from onceshade.errors import NoBody, TooMany
from onceshade.numbers import is_whole_tuple

MOST = 24
GREATEST_COORDINATE = 999999


def is_corner(thing):
    """Tell whether a thing is a corner of a body."""
    return is_whole_tuple(thing, 3) and all([abs(number) <= GREATEST_COORDINATE for number in thing])


def is_face(thing, many):
    """Tell whether a thing is a face of a body of so many corners."""
    if not is_whole_tuple(thing, 3):
        return False
    i, j, k = thing
    return i != j and j != k and k != i and min(thing) >= 0 and max(thing) < many


def check_body(thing):
    """Refuse what is no body with NoBody."""
    if not isinstance(thing, tuple) or len(thing) != 2:
        raise NoBody("a body is a tuple of its corners and its faces")
    corners, faces = thing
    if not isinstance(corners, list) or len(corners) < 1 or len(corners) > MOST:
        raise NoBody("the corners of a body are a list of 1 to 24")
    if not all([is_corner(corner) for corner in corners]):
        raise NoBody("a corner is a tuple of three whole numbers of at most six figures")
    if not isinstance(faces, list) or len(faces) > MOST:
        raise NoBody("the faces of a body are a list of at most 24")
    if not all([is_face(face, len(corners)) for face in faces]):
        raise NoBody("a face is a tuple of three unlike numbers of corners")


def is_body(thing):
    """Tell whether a thing is a body."""
    try:
        check_body(thing)
    except NoBody:
        return False
    return True


def sides_of(face):
    """Tell the three sides of a face of a body."""
    i, j, k = face
    return [(i, j), (j, k), (k, i)]


def fellow(pair):
    """Tell the fellow of a side."""
    return (pair[1], pair[0])


def side_counts(faces):
    """Tell how often each side stands in faces of a body."""
    counts = {}
    for face in faces:
        for pair in sides_of(face):
            counts[pair] = counts.get(pair, 0) + 1
    return counts


def lacking(body):
    """Tell the sides that stand oftener than their fellow, as many times as they do so more, sorted."""
    counts = side_counts(body[1])
    told = []
    for pair in counts:
        more = counts[pair] - counts.get(fellow(pair), 0)
        told.extend([pair] * max(more, 0))
    return sorted(told)


def is_closed(body):
    """Tell whether no side of a body is lacking."""
    return lacking(body) == []


def inside_out(body):
    """Turn each face of a body the other way about."""
    corners, faces = body
    return (list(corners), [(i, k, j) for i, j, k in faces])


def are_joined(one, other):
    """Tell whether a side of the one face, or its fellow, is a side of the other."""
    sides = sides_of(other)
    return any([pair in sides or fellow(pair) in sides for pair in sides_of(one)])


def part_from(faces, first):
    """Tell the numbers of all faces to which a row of joined faces leads from the first, sorted."""
    part = [first]
    done = 0
    while done < len(part):
        face = faces[part[done]]
        done += 1
        part.extend([at for at, other in enumerate(faces) if at not in part and are_joined(face, other)])
    return sorted(part)


def parts(body):
    """Tell the parts of a body: sorted lists of numbers of faces, the lists sorted too."""
    faces = body[1]
    left = list(range(len(faces)))
    told = []
    while left:
        # The least number left comes first, so the lists come sorted.
        part = part_from(faces, left[0])
        told.append(part)
        left = [at for at in left if at not in part]
    return told


def together(one, other):
    """Put two bodies together, the numbers of the other's corners counted on."""
    corners = one[0] + other[0]
    ahead = len(one[0])
    faces = one[1] + [(i + ahead, j + ahead, k + ahead) for i, j, k in other[1]]
    if len(corners) > MOST or len(faces) > MOST:
        raise TooMany("a body has at most 24 corners and 24 faces")
    return (corners, faces)

"""Rays towards a light, the faces that they meet, and shadows [29, 30]."""

from onceshade.depths import seen_at, unreduced_depth
from onceshade.lights import check_light
from onceshade.numbers import determinant_of_four, lowest_terms, sign


def ray_meets(spot, light, face):
    """Tell whether the ray from a spot towards a light meets a face, past the spot itself."""
    check_light(light)
    a, b, c = face
    # The ray's spots are the spot itself and any many times this, added number by number.
    ahead = light + (0,)
    rise = sign(determinant_of_four(a, b, c, ahead))
    # Just where the ray comes to the face's flat, and isn't in it from the first, the two signs are unlike.
    if rise == 0 or sign(determinant_of_four(a, b, c, spot)) != -rise:
        return False
    corners = (
        determinant_of_four(spot, b, c, ahead),
        determinant_of_four(a, spot, c, ahead),
        determinant_of_four(a, b, spot, ahead),
    )
    # The corners' shares at the place where the ray is in the flat have these signs, times the rise.
    return all([sign(number) != -rise for number in corners])


def place_at(face, dot):
    """Tell the spot that stands at a dot, as deep as a face is there."""
    top, bottom = unreduced_depth(face, dot)
    return lowest_terms((dot[0] * bottom, dot[1] * bottom, top, bottom))


def in_shadow(faces, dot, light):
    """Tell whether another face stands between what is seen at a dot and a light; None where none is seen."""
    check_light(light)
    seen = seen_at(faces, dot)
    if seen is None:
        return None
    place = place_at(faces[seen], dot)
    return any([ray_meets(place, light, face) for number, face in enumerate(faces) if number != seen])

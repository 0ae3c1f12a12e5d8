"""The outline of a body: the sides between what is seen and what is turned away [28]."""

from onceshade.bodies import fellow, sides_of
from onceshade.flats import turn
from onceshade.moves import faces_seen


def outline(body, move):
    """Tell the sides of faces turned here whose fellows are sides of faces turned away or edge on, sorted."""
    here = []
    others = []
    for face, seen in zip(body[1], faces_seen(body, move)):
        if turn(seen) > 0:
            here.extend(sides_of(face))
        else:
            others.extend(sides_of(face))
    return sorted({pair for pair in here if fellow(pair) in others})

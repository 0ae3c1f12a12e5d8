"""Deeds, played into things [31]."""

from onceshade.bodies import is_body
from onceshade.coats import is_coat
from onceshade.copies import own_copy
from onceshade.errors import NoDeed, TooMany
from onceshade.moves import after, faces_seen, is_move, still
from onceshade.sheets import FULL_COVER, is_cover

MOST_DEEDS = 60
MOST_THINGS = 24
FIRST_COAT = ("plain", (255, 255, 255))


def is_deed(thing):
    """Tell whether a thing is a deed, whatever comes of it."""
    if thing == ("push",) or thing == ("pop",):
        return True
    if not isinstance(thing, tuple) or len(thing) != 2:
        return False
    word, part = thing
    if word == "move":
        return is_move(part)
    if word == "coat":
        return is_coat(part)
    if word == "cover":
        return is_cover(part)
    return word == "draw" and is_body(part)


def first_stand():
    """Tell how all stands ahead of the first deed: what holds (move, coat, cover), all that is kept, the things."""
    return ((still(), FIRST_COAT, FULL_COVER), (), ())


def with_part(holding, word, part):
    """Tell what holds from a move, coat or cover on."""
    move, coat, cover = holding
    if word == "move":
        return (after(move, part), coat, cover)
    if word == "coat":
        return (move, part, cover)
    return (move, coat, part)


def drawn(holding, things, body):
    """Tell things and those that come of a body drawn."""
    move, coat, cover = holding
    told = things + tuple([(face, coat, cover) for face in faces_seen(body, move)])
    if len(told) > MOST_THINGS:
        raise TooMany("there are at most 24 things")
    return told


def stand_after(stand, deed):
    """Tell how all stands after a deed."""
    if not is_deed(deed):
        raise NoDeed("this is no deed")
    holding, kept, things = stand
    word = deed[0]
    if word == "push":
        return (holding, kept + (holding,), things)
    if word == "pop":
        if len(kept) == 0:
            raise NoDeed("nothing is kept that a pop could bring back")
        return (kept[-1], kept[:-1], things)
    if word == "draw":
        return (holding, kept, drawn(holding, things, deed[1]))
    return (with_part(holding, word, deed[1]), kept, things)


def things_of(stand):
    """Tell the things drawn, each with lists of its own."""
    return own_copy(list(stand[2]))


def played(deeds):
    """Tell the things that come of deeds, played from the first one on."""
    if not isinstance(deeds, list):
        raise NoDeed("deeds are a list")
    if len(deeds) > MOST_DEEDS:
        raise TooMany("there are at most 60 deeds")
    stand = first_stand()
    for deed in deeds:
        stand = stand_after(stand, deed)
    return things_of(stand)

"""Copies of things: what is kept is not the teller's, what is told is the asker's own [2]."""


def own_copy(thing):
    """Copy a thing, with each list within it new."""
    if isinstance(thing, list):
        return [own_copy(part) for part in thing]
    if isinstance(thing, tuple):
        return tuple([own_copy(part) for part in thing])
    return thing

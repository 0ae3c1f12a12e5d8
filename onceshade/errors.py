"""The refusals: one base, and one class for each kind of refusal straight under it."""


class ShadeError(ValueError):
    """The base of all refusals."""


class NoFraction(ShadeError):
    """The second number of a fraction is 0."""


class NoSpot(ShadeError):
    """The last number of a spot is 0."""


class NoBody(ShadeError):
    """A thing is no body."""


class NoMove(ShadeError):
    """A move is asked for by what makes none."""


class NoFlat(ShadeError):
    """A thing is no flat."""


class NoFace(ShadeError):
    """A face is edge on, or does not have the dot."""


class NoBoard(ShadeError):
    """A thing is no board, or no side of squares."""


class NoLight(ShadeError):
    """A thing is no light."""


class NoDeed(ShadeError):
    """A thing is no deed, or cannot be done."""


class NoText(ShadeError):
    """A text is not written as told."""


class NoName(ShadeError):
    """No body has this name."""


class NoRow(ShadeError):
    """A row is of none of the desk's forms."""


class Behind(ShadeError):
    """A move takes a spot behind who looks."""


class TooMany(ShadeError):
    """There is more than there may be."""

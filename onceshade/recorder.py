"""The recorder: deeds told one by one [32]."""

from onceshade.copies import own_copy
from onceshade.deeds import MOST_DEEDS, first_stand, stand_after, things_of
from onceshade.errors import NoDeed, TooMany
from onceshade.sheets import coloured


class Recorder:
    """Keeps deeds that can be played."""

    def __init__(self):
        self.recorded = []
        # How all stands ahead of each deed recorded, and after the last one.
        self.stands = [first_stand()]

    def record(self, deed):
        """Keep a deed, or refuse it as it would be refused when played."""
        if len(self.recorded) >= MOST_DEEDS:
            raise TooMany("there are at most 60 deeds")
        # Copied ahead of all: lists within what was handed in may be changed behind the call.
        own = own_copy(deed)
        stand = stand_after(self.stands[-1], own)
        self.recorded.append(own)
        self.stands.append(stand)

    def push(self):
        """Record a push."""
        self.record(("push",))

    def pop(self):
        """Record a pop."""
        self.record(("pop",))

    def move(self, move):
        """Record a move."""
        self.record(("move", move))

    def coat(self, coat):
        """Record a coat."""
        self.record(("coat", coat))

    def cover(self, cover):
        """Record a cover."""
        self.record(("cover", cover))

    def draw(self, body):
        """Record a draw."""
        self.record(("draw", body))

    def undo(self):
        """Take the last deed recorded away."""
        if len(self.recorded) == 0:
            raise NoDeed("no deed is recorded")
        del self.recorded[-1], self.stands[-1]

    def deeds(self):
        """Tell the deeds recorded."""
        return own_copy(self.recorded)

    def things(self):
        """Tell the things that the deeds recorded make."""
        return things_of(self.stands[-1])

    def picture(self, board, behind):
        """Tell the picture of colours of what the deeds recorded make, over a colour behind."""
        return coloured(self.things(), board, behind)

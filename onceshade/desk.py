"""The desk: rows told, and answered by texts [35]."""

from onceshade.bodies import is_closed, parts
from onceshade.depths import seen_at
from onceshade.errors import NoName, NoRow
from onceshade.recorder import Recorder
from onceshade.texts import read_body, read_colour, read_move, read_number, show_picture

LONGEST_NAME = 8
OK = "ok"

# For each first word of a row what stands behind it. A body and a move are told by a TEXT, which goes to the row's end.
FORMS = {
    "body": ("new name", "body"),
    "push": (),
    "pop": (),
    "move": ("move",),
    "coat": ("colour",),
    "cover": ("number",),
    "draw": ("name",),
    "undo": (),
    "closed": ("name",),
    "parts": ("name",),
    "seen": ("number", "number"),
    "paint": ("number", "number", "colour"),
    "count": (),
}


def is_name(word):
    """Tell whether a word may be the name of a body."""
    return 1 <= len(word) <= LONGEST_NAME and all(["a" <= sign <= "z" for sign in word])


def fits(kind, word):
    """Tell whether a word is of a form that has this kind at its place, whether or not it can be read."""
    if kind == "new name" or kind == "name":
        return is_name(word)
    return kind == "body" or kind == "move" or word != ""


def split_row(row):
    """Tell the first word of a row, and the words, or the TEXT, behind it as its form has them."""
    first, *words = row.split(" ")
    if first not in FORMS:
        raise NoRow("no row begins with this word")
    kinds = FORMS[first]
    if len(kinds) > 0 and kinds[-1] in ("body", "move"):
        words = row.split(" ", len(kinds))[1:]
    if len(words) != len(kinds) or not all([fits(kind, word) for kind, word in zip(kinds, words)]):
        raise NoRow("the row is of another form than its first word asks for")
    return (first, words)


def read_word(kind, word):
    """Read a word, or a TEXT, by its kind; a name is left as it is."""
    if kind == "number":
        return read_number(word)
    if kind == "colour":
        return read_colour(word)
    if kind == "body":
        return read_body(word)
    if kind == "move":
        return read_move(word)
    return word


def named_body(bodies, name):
    """Tell the body by a name."""
    if name not in bodies:
        raise NoName("no body has this name")
    return bodies[name]


def name_body(desk, told):
    """Keep a body by a name."""
    name, body = told
    desk.bodies[name] = body
    return OK


def record_push(desk, told):
    """Record a push."""
    desk.recorder.push()
    return OK


def record_pop(desk, told):
    """Record a pop."""
    desk.recorder.pop()
    return OK


def record_move(desk, told):
    """Record a move."""
    desk.recorder.move(told[0])
    return OK


def record_coat(desk, told):
    """Record a plain coat."""
    desk.recorder.coat(("plain", told[0]))
    return OK


def record_cover(desk, told):
    """Record a cover."""
    desk.recorder.cover(told[0])
    return OK


def record_draw(desk, told):
    """Record that a body is drawn."""
    desk.recorder.draw(told[0])
    return OK


def undo_last(desk, told):
    """Take the last deed recorded away."""
    desk.recorder.undo()
    return OK


def answer_closed(desk, told):
    """Answer whether a body is closed."""
    return "yes" if is_closed(told[0]) else "no"


def answer_parts(desk, told):
    """Answer how many parts a body has."""
    return str(len(parts(told[0])))


def answer_seen(desk, told):
    """Answer which thing is seen at a dot."""
    number = seen_at([face for face, coat, cover in desk.recorder.things()], tuple(told))
    return "none" if number is None else str(number)


def answer_paint(desk, told):
    """Answer the picture on a board over a colour."""
    wide, high, colour = told
    return show_picture(desk.recorder.picture((wide, high), colour))


def answer_count(desk, told):
    """Answer how many things there are."""
    return str(len(desk.recorder.things()))


ANSWERS = {
    "body": name_body,
    "push": record_push,
    "pop": record_pop,
    "move": record_move,
    "coat": record_coat,
    "cover": record_cover,
    "draw": record_draw,
    "undo": undo_last,
    "closed": answer_closed,
    "parts": answer_parts,
    "seen": answer_seen,
    "paint": answer_paint,
    "count": answer_count,
}


class Desk:
    """Keeps bodies by their names, and deeds."""

    def __init__(self):
        self.bodies = {}
        self.recorder = Recorder()

    def say(self, row):
        """Answer a row; what is refused changes nothing."""
        first, words = split_row(row)
        kinds = FORMS[first]
        # All is read ahead of the look for a name: what can't be read is refused ahead of a name that no body has.
        told = [read_word(kind, word) for kind, word in zip(kinds, words)]
        told = [named_body(self.bodies, part) if kind == "name" else part for kind, part in zip(kinds, told)]
        answer = ANSWERS[first]
        return answer(self, told)

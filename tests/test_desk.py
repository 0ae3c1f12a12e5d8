import random
import re
import unittest

from onceshade.bodies import is_closed, parts
from onceshade.deeds import played
from onceshade.depths import seen_at
from onceshade.desk import Desk
from onceshade.errors import Behind, NoBoard, NoBody, NoDeed, NoName, NoRow, NoText, ShadeError, TooMany
from onceshade.moves import look_from, shift, still, stretch
from onceshade.sheets import coloured
from onceshade.texts import read_body, read_colour, read_move, show_body, show_move, show_picture
from helpers import GREATEST, refused
from samples import BODIES, CUBE, POINT, RED, TETRAHEDRON, TRIANGLE

TRI, TETRA, BOX, DOT = [show_body(body) for body in (TRIANGLE, TETRAHEDRON, CUBE, POINT)]
BEHIND = show_move(still()[:3] + ((0, 0, 0, -1),))
SHIFT = show_move(shift(1, 2, 0))
THOUSAND = "9" * 1000
SIGNS = "\t\n" + "".join(chr(code) for code in range(32, 127) if chr(code) != "%")


def desk_with(*rows):
    desk = Desk()
    for row in rows:
        desk.say(row)
    return desk


def full_desk():
    """A desk with 60 deeds recorded, of which a pop, a cover of 9 or a draw would be refused otherwise."""
    return desk_with(f"body a {TRI}", "draw a", f"move {BEHIND}", *["cover 1"] * 58)


class Model:
    """What a desk should answer, told another way: by forms written as patterns, and deeds played anew each time."""

    NUMBER = r"(?:0|-?[1-9][0-9]{0,999})"
    FORMS = {
        "body": r"body ([a-z]{1,8}) (?s:(.*))", "push": "push", "pop": "pop", "undo": "undo", "count": "count",
        "move": r"move (?s:(.*))", "coat": "coat ([^ ]+)", "cover": "cover ([^ ]+)", "draw": "draw ([a-z]{1,8})",
        "closed": "closed ([a-z]{1,8})", "parts": "parts ([a-z]{1,8})", "seen": "seen ([^ ]+) ([^ ]+)",
        "paint": "paint ([^ ]+) ([^ ]+) ([^ ]+)",
    }

    def __init__(self):
        self.bodies = {}
        self.deeds = []

    def number(self, text):
        if not re.fullmatch(self.NUMBER, text):
            raise NoText
        return int(text)

    def body(self, name):
        if name not in self.bodies:
            raise NoName
        return self.bodies[name]

    def record(self, *deed):
        played(self.deeds + [deed])
        self.deeds.append(deed)
        return "ok"

    def say(self, row):
        found = [(word, match) for word, match in [(word, re.fullmatch(form, row)) for word, form in self.FORMS.items()] if match]
        if not found:
            raise NoRow
        (word, match), = found
        return getattr(self, "say_" + word)(*match.groups())

    def say_body(self, name, text):
        self.bodies[name] = read_body(text)
        return "ok"

    def say_push(self):
        return self.record("push")

    def say_pop(self):
        return self.record("pop")

    def say_undo(self):
        if not self.deeds:
            raise NoDeed
        self.deeds.pop()
        return "ok"

    def say_count(self):
        return str(len(played(self.deeds)))

    def say_move(self, text):
        return self.record("move", read_move(text))

    def say_coat(self, text):
        return self.record("coat", ("plain", read_colour(text)))

    def say_cover(self, text):
        return self.record("cover", self.number(text))

    def say_draw(self, name):
        return self.record("draw", self.body(name))

    def say_closed(self, name):
        return "yes" if is_closed(self.body(name)) else "no"

    def say_parts(self, name):
        return str(len(parts(self.body(name))))

    def say_seen(self, x, y):
        seen = seen_at([thing[0] for thing in played(self.deeds)], (self.number(x), self.number(y)))
        return "none" if seen is None else str(seen)

    def say_paint(self, wide, high, colour):
        told = (self.number(wide), self.number(high)), read_colour(colour)
        return show_picture(coloured(played(self.deeds), *told))


class Desks(unittest.TestCase):
    def refuses(self, kind, desk, *rows):
        """Each row is refused with just this kind, and all the desk tells stays as it was."""
        picture = desk.say("paint 9 8 102030")
        count = desk.say("count")
        for row in rows:
            refused(self, kind, desk.say, row)
            self.assertEqual((desk.say("paint 9 8 102030"), desk.say("count")), (picture, count), row)

    def test_a_whole_talk(self):
        desk = Desk()
        for row, answer in [
            ("count", "0"),
            ("paint 2 1 0a0b0c", "0a0b0c*2"),
            ("seen 0 0", "none"),
            (f"body tri {TRI}", "ok"),
            ("closed tri", "no"),
            ("parts tri", "1"),
            ("push", "ok"),
            ("move 1 0 0 1 0 1 0 0 0 0 1 0 0 0 0 1", "ok"),
            ("coat ff0000", "ok"),
            ("cover 4", "ok"),
            ("draw tri", "ok"),
            ("count", "1"),
            ("seen 1 0", "0"),
            ("seen 0 0", "none"),
            ("paint 3 1 0100c9", "0100c9 800064*2"),
            ("pop", "ok"),
            ("draw tri", "ok"),
            ("count", "2"),
            ("seen 0 0", "1"),
            ("seen 1 0", "0"),
            ("paint 3 2 0100c9", "ffffff ff7f7f*2/ffffff ff7f7f*2"),
            ("undo", "ok"),
            ("count", "1"),
            ("undo", "ok"),
            ("undo", "ok"),
            ("count", "0"),
            ("draw tri", "ok"),
            ("paint 2 1 0100c9", "0100c9 800064"),
            ("body none 7 -7 999999:", "ok"),
            ("closed none", "yes"),
            ("parts none", "0"),
        ]:
            told = desk.say(row)
            self.assertIs(type(told), str)
            self.assertEqual(told, answer, row)

    def test_bodies(self):
        desk = Desk()
        for name, body in zip("abcdef", BODIES):
            self.assertEqual(desk.say(f"body {name} {show_body(body)}"), "ok")
        for name, body in zip("abcdef", BODIES):
            self.assertEqual(desk.say(f"closed {name}"), "yes" if is_closed(body) else "no")
            self.assertEqual(desk.say(f"parts {name}"), str(len(parts(body))))

    def test_names(self):
        for name in ["a", "z", "abcdefgh", "zzzzzzzz", "push", "body", "none"]:
            desk = desk_with(f"body {name} {TRI}")
            self.assertEqual(desk.say(f"closed {name}"), "no")
            self.assertEqual(desk.say(f"draw {name}"), "ok")
        desk = desk_with(f"body a {TRI}")
        for name in [
            "", "abcdefghi", "A", "aB", "Abc", "a1", "1", "a_b", "a-b", "a.b", "a\t", "\ta", "a\n", "a,", "`", "{", "a{", "ab`", " ", "@",
        ]:
            self.refuses(NoRow, desk, f"draw {name}", f"closed {name}", f"parts {name}", f"body {name} {TRI}")
            self.refuses(NoRow, desk, f"body {name} none", f"body {name} ", f"body {name}")
        self.refuses(NoName, desk, "draw b", "closed b", "parts b", "draw abcdefgh", "closed aa", "parts z")

    def test_a_text_that_is_nothing_and_without_the_blank(self):
        desk = desk_with(f"body a {TRI}")
        self.refuses(NoText, desk, "body a ", "move ", "body abcdefgh ")
        self.refuses(NoRow, desk, "body a", "move", "body ", "body", "body  ", f"body{TRI}", "bodya ")

    def test_a_text_as_it_stands(self):
        desk = desk_with(f"body a {TRI}")
        self.refuses(NoText, desk, f"body a  {TRI}", f"body a {TRI} ", f"body a {TRI}\n", f"move  {SHIFT}", f"move {SHIFT} ", f"move \t{SHIFT}")
        self.refuses(NoText, desk, "body a none", "body a push", "move 1 2 3", f"move {SHIFT} 1", "body a b " + TRI, "move a", "body a :")
        self.refuses(NoText, desk, "move " + SHIFT.replace("1", "01", 1), "move " + SHIFT.replace("0", "-0", 1), "body a 0 0 +1:")
        self.refuses(NoText, desk, f"move 1{THOUSAND}" + " 0" * 15, "body a 0 0 0" + THOUSAND + ":")
        self.refuses(NoBody, desk, "body a 0 0 1000000:", "body a 0 0 0: 0 1 2", f"body a {TRI}, 0 1 1", f"body a {THOUSAND} 0 0:")
        self.refuses(NoBody, desk, "body a " + ", ".join(["0 0 0"] * 25) + ":")
        self.assertEqual(desk.say("closed a"), "no")

    def test_rows_of_another_form(self):
        desk = desk_with(f"body a {TRI}", "push", "draw a")
        self.refuses(
            NoRow, desk, "", " ", "  ", "\n", "\t", "Push", "PUSH", "pus", "pushh", "push ", " push", "push\n", "push\t", "push 1", "push push",
            "push  ", "pop ", "pop 1", "pops", "undo ", "undo 1", "Undo", "count ", "count a", "counts", "Count", "coat", "coat ", "coat  ff0000",
            "coat ff0000 ", "coat ff0000 ff0000", "coat ff 00 00", " coat ff0000", "coatff0000", "coat\tff0000", "colour ff0000",
            "cover", "cover ", "cover  8", "cover 8 ", "cover 8 8", "cover8", "Cover 8", "cover\t8", "draw", "draw ", "draw  a", "draw a ",
            "draw a a", "drawa", "Draw a", "closed", "closed ", "closed a a", "closed  a", "closed a ", "parts", "parts ", "parts a a", "part a",
            "seen", "seen ", "seen 0", "seen 0 ", "seen  0", "seen 0  0", "seen 0 0 ", "seen 0 0 0", "seen 0,0", "seen0 0", " seen 0 0",
            "paint", "paint 1", "paint 1 1", "paint 1 1 ", "paint 1 1  ff0000", "paint 1 1 ff0000 ", "paint 1  1 ff0000", "paint  1 1 ff0000",
            "paint 1 1 ff0000 1", "paint 1 ff0000 ", "Move " + SHIFT, "moves " + SHIFT, " move " + SHIFT, "move\t" + SHIFT, "bodies a " + TRI,
            "Body a " + TRI, " body a " + TRI, "body a\t" + TRI, "body\ta " + TRI, "say push", "deeds", "picture", "look", "a", "ok", "none",
        )

    def test_numbers_and_colours_that_are_none(self):
        desk = desk_with(f"body a {TRI}", "draw a")
        wrong = ["+1", "-0", "00", "01", "-01", "-", "a", "1.0", "\t1", "1\n", "0x1", "1,", "1" + THOUSAND, "none"]
        for number in wrong:
            self.refuses(NoText, desk, f"cover {number}", f"seen {number} 0", f"seen 0 {number}", f"seen {number} {number}")
            self.refuses(NoText, desk, f"paint {number} 1 ff0000", f"paint 1 {number} ff0000")
        for colour in ["0", "FF0000", "ff000", "ff00000", "ff000g", "red", "ff0000\n", "\tff0000", "#ff0000", "ff0000*2", "ff0000/ff0000", "-"]:
            self.refuses(NoText, desk, f"coat {colour}", f"paint 1 1 {colour}")

    def test_two_refusals_at_once(self):
        desk = desk_with(f"body a {TRI}")
        # NoRow, then NoText, then NoName, then NoBoard, then as what is asked.
        self.refuses(NoRow, desk, "body A none", "body A 0 0 1000000:", "cover 9 9", "cover x ", "draw nosuch nosuch", "paint 0 0 red red", "paint 0 x")
        self.refuses(NoRow, desk, "pop pop", "undo undo", "draw NOSUCH", "seen x", "coat x x")
        self.refuses(NoText, desk, "paint 0 0 red", "paint 0 x ff0000", "paint x 17 ff0000", "paint 17 17 FF0000", "body a 0 0 1000000: ")
        self.refuses(NoText, desk, "cover 09", "cover -01")
        self.refuses(NoBoard, desk, "paint 0 0 ff0000")
        desk.say(f"move {BEHIND}")
        self.refuses(NoName, desk, "draw nosuch")
        self.refuses(Behind, desk, "draw a")

    def test_boards(self):
        desk = desk_with(f"body a {TRI}", "draw a")
        for wide, high in [(0, 1), (1, 0), (17, 1), (1, 17), (-1, 1), (1, -1), (0, 0), (GREATEST, 1), (1, THOUSAND), (17, 17), (-16, 16)]:
            self.refuses(NoBoard, desk, f"paint {wide} {high} ff0000")
        self.assertEqual(desk.say("paint 1 1 ff0000"), "ffffff")
        self.assertEqual(desk.say("paint 16 1 ff0000"), "ffffff*4 ff0000*12")
        self.assertEqual(desk.say("paint 1 16 ff0000"), "/".join(["ffffff"] * 4 + ["ff0000"] * 12))
        self.assertEqual(
            desk.say("paint 16 16 ff0000"),
            show_picture(coloured(played([("draw", TRIANGLE)]), (16, 16), RED)),
        )

    def test_covers(self):
        desk = desk_with(f"body a {TRI}")
        self.refuses(NoDeed, desk, "cover 9", "cover -1", "cover 10", f"cover {THOUSAND}", f"cover -{THOUSAND}")
        for cover, colour in [(0, "000000"), (1, "1f1f1f"), (4, "7f7f7f"), (8, "ffffff")]:
            self.assertEqual(desk.say(f"cover {cover}"), "ok")
            self.assertEqual(desk.say("draw a"), "ok")
            self.assertEqual(desk.say("paint 1 1 000000"), colour)
            desk.say("undo")

    def test_seen_beyond_any_board_and_below_0(self):
        wide = ([(-900000, -900000, 1), (900000, -900000, 1), (0, 900000, 1)], [(0, 1, 2)])
        desk = desk_with(f"body w {show_body(wide)}", f"body a {TRI}", "draw a", "draw w")
        for x, y in [(-5, -7), (500, -800000), (-800000, -899999), (17, 17), (0, 899000)]:
            self.assertEqual(desk.say(f"seen {x} {y}"), "1")
        self.assertEqual(desk.say("seen 1 1"), "0")
        self.assertEqual(desk.say("seen 0 900000"), "none")
        self.assertEqual(desk.say(f"seen {GREATEST} -{GREATEST}"), "none")
        self.assertEqual(desk.say(f"seen {THOUSAND} -{THOUSAND}"), "none")
        desk.say("move " + " ".join(["1" + "0" * 999 if at in (0, 5) else "1" if at in (10, 15) else "0" for at in range(16)]))
        desk.say("draw w")
        self.assertEqual(desk.say(f"seen -{THOUSAND} -{THOUSAND}"), "2")

    def test_seen_tells_the_thing_whatever_its_cover(self):
        desk = desk_with(f"body a {TRI}", "draw a", "cover 0", f"move {show_move(shift(0, 0, -1))}", "draw a")
        self.assertEqual(desk.say("seen 0 0"), "1")

    def test_pop_and_undo(self):
        desk = desk_with(f"body a {TRI}")
        self.refuses(NoDeed, desk, "pop", "undo")
        desk = desk_with(f"body a {TRI}", "push", "coat ff0000", "pop", "draw a")
        self.refuses(NoDeed, desk, "pop")
        self.assertEqual(desk.say("paint 1 1 000000"), "ffffff")
        desk.say("undo")
        desk.say("undo")
        desk.say("draw a")
        # The pop is taken away: the coat holds still, and what is kept is there again.
        self.assertEqual(desk.say("paint 1 1 000000"), "ff0000")
        self.assertEqual(desk.say("pop"), "ok")
        for step in range(4):
            self.assertEqual(desk.say("undo"), "ok")
        self.refuses(NoDeed, desk, "undo", "pop")
        # A body is no deed: undo leaves it.
        self.assertEqual(desk.say("closed a"), "no")

    def test_a_body_told_anew(self):
        desk = desk_with(f"body a {TRI}", "draw a", f"body a {TETRA}")
        self.assertEqual(desk.say("count"), "1")
        self.assertEqual(desk.say("closed a"), "yes")
        self.assertEqual(desk.say("paint 5 5 000000"), show_picture(coloured(played([("draw", TRIANGLE)]), (5, 5), (0, 0, 0))))
        self.assertEqual(desk.say("draw a"), "ok")
        self.assertEqual(desk.say("count"), "5")
        desk.say(f"body a {BOX}")
        desk.say("undo")
        self.assertEqual(desk.say("count"), "1")
        # What is refused leaves the body that stands there.
        self.refuses(NoText, desk, "body a none")
        self.refuses(NoBody, desk, "body a 0 0 0: 0 1 2")
        self.assertEqual(desk.say("draw a"), "ok")
        self.assertEqual(desk.say("count"), "13")

    def test_behind(self):
        desk = desk_with(f"body a {TRI}", f"body d {DOT}", "draw a", "push", f"move {BEHIND}")
        self.refuses(Behind, desk, "draw a")
        self.assertEqual(desk.say("draw d"), "ok")
        self.assertEqual(desk.say("pop"), "ok")
        self.assertEqual(desk.say("draw a"), "ok")

    def test_24_things(self):
        desk = desk_with(f"body box {BOX}", f"body a {TRI}", "draw box", "draw box")
        self.assertEqual(desk.say("count"), "24")
        self.refuses(TooMany, desk, "draw a", "draw box")
        desk.say(f"move {BEHIND}")
        self.refuses(Behind, desk, "draw a")

    def test_a_61st_deed(self):
        desk = full_desk()
        self.refuses(TooMany, desk, "push", "pop", f"move {SHIFT}", "coat ff0000", "cover 8", "cover 9", "cover -1", "draw a")
        # What is none of a deed's rows is told ahead of that, in the order that the point tells.
        self.refuses(NoRow, desk, "cover", "cover 1 1", "draw A", "pushed")
        self.refuses(NoText, desk, "cover 01", "coat red", "move 1")
        self.refuses(NoName, desk, "draw nosuch")
        self.assertEqual(desk.say(f"body b {TETRA}"), "ok")
        self.assertEqual(desk.say("closed b"), "yes")
        self.assertEqual(desk.say("undo"), "ok")
        self.refuses(NoDeed, desk, "cover 9", "pop")
        self.refuses(Behind, desk, "draw a")
        self.assertEqual(desk.say("push"), "ok")
        self.refuses(TooMany, desk, "push")

    def test_two_desks_by_turns(self):
        one, other = Desk(), Desk()
        one.say(f"body a {TRI}")
        refused(self, NoName, other.say, "draw a")
        other.say(f"body a {TETRA}")
        one.say("push")
        refused(self, NoDeed, other.say, "pop")
        refused(self, NoDeed, other.say, "undo")
        one.say("draw a")
        other.say("coat ff0000")
        other.say("draw a")
        self.assertEqual((one.say("count"), other.say("count")), ("1", "4"))
        self.assertEqual((one.say("closed a"), other.say("closed a")), ("no", "yes"))
        self.assertEqual((one.say("paint 1 1 000000"), other.say("paint 1 1 000000")), ("ffffff", "ff0000"))
        self.assertEqual(Desk().say("count"), "0")

    def test_names_and_deeds_are_not_mixed_up(self):
        desk = desk_with(f"body push {TRI}", f"body draw {TETRA}", "draw push", "draw draw")
        self.assertEqual(desk.say("count"), "5")

    def test_great_moves(self):
        row = "move " + show_move(((10 ** 999, 0, 0, 0), (0, -10 ** 999, 0, 0), (0, 0, 1, 0), (0, 0, 0, 10 ** 999)))
        desk = desk_with(f"body a {TRI}", row, row, "draw a")
        self.assertEqual(desk.say("seen 1 1"), "0")
        self.assertEqual(desk.say("paint 2 1 000000"), "ffffff*2")


class Talks(unittest.TestCase):
    GOOD = [
        "push", "pop", "undo", "count", "coat ff0000", "coat 00ff7f", "cover 8", "cover 0", "cover 3", "draw a", "draw b", "draw c",
        "closed a", "closed b", "parts c", "seen 1 1", "seen -1 20", "seen 3 2", "paint 4 3 102030", "paint 1 1 000000",
        f"body a {TRI}", f"body b {TETRA}", f"body c {DOT}", f"body a {TETRA}", f"move {SHIFT}", f"move {BEHIND}",
        f"move {show_move(stretch(2, 1, 1))}", f"move {show_move(look_from(8))}",
    ]
    BAD = ["cover 9", "cover -1", "paint 0 4 000000", "paint 4 17 000000", "draw nosuch", "closed nosuch", "parts z", "body a 0 0 0: 0 1 2", "push "]

    def answer(self, desk, row):
        try:
            return desk.say(row)
        except ShadeError as error:
            return type(error)

    def near(self, row, chance):
        at = chance.randint(0, len(row))
        sign = chance.choice(" -0123456789abcdfgz" + chance.choice(SIGNS))
        return row[:at] + chance.choice(["", sign]) + row[at + chance.randint(0, 1):]

    def test_as_the_model_says(self):
        chance = random.Random(35)
        kinds = {}
        for step in range(25):
            desk, model = Desk(), Model()
            for number in range(150):
                # In some of the talks the deeds come thick, so that they are too many.
                row = chance.choice(self.GOOD * 2 + self.BAD + ["draw b", "cover 2", "push"] * (step % 3 * 20))
                if chance.random() < 0.25:
                    row = self.near(row, chance)
                told = self.answer(desk, row)
                self.assertEqual(told, self.answer(model, row), row)
                kinds[told if type(told) is type else "said"] = True
        self.assertEqual(set(kinds), {"said", NoRow, NoText, NoName, NoBoard, NoBody, NoDeed, Behind, TooMany})

    def test_each_row_a_sign_away(self):
        rows = set()
        for row in self.GOOD[:20] + [f"body a {TRI}", f"move {SHIFT}"]:
            for at in range(min(len(row), 14) + 1):
                rows.add(row[:at] + row[at + 1:])
                for sign in " \t\n-0a1Z~":
                    rows.add(row[:at] + sign + row[at:])
                    rows.add(row[:at] + sign + row[at + 1:])
        ahead = [f"body a {TRI}", f"body b {TETRA}", f"body c {DOT}", "draw a", "push", "cover 5"]
        for row in sorted(rows):
            desk, model = Desk(), Model()
            for good in ahead:
                desk.say(good)
                model.say(good)
            self.assertEqual(self.answer(desk, row), self.answer(model, row), row)
            for word in ("count", "pop", "undo", "paint 2 2 000000"):
                self.assertEqual(self.answer(desk, word), self.answer(model, word), row)


if __name__ == "__main__":
    unittest.main()

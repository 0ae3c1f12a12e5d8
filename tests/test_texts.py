import itertools
import random
import re
import unittest

from onceshade.deeds import played
from onceshade.errors import NoBody, NoText
from onceshade.moves import after, shift
from onceshade.sheets import coloured
from onceshade.texts import (
    read_body, read_colour, read_move, read_picture, show_body, show_colour, show_move, show_picture,
)
from helpers import asks_again, refused
from samples import BODIES, BOARDS, COATS, CUBE, GREEN, MOVES, POINT, RED, STILL, TETRAHEDRON

THOUSAND = 10 ** 1000 - 1
SIGNS = "\t\n" + "".join(chr(code) for code in range(32, 127) if chr(code) != "%")
WRONG_NUMBERS = [
    "", "-", "+", "+1", "-0", "00", "01", "-01", "0x1", "1.0", "1e3", "1_0", "--1", "1-", "- 1", "a", "\t1", "1\t", "1\n", "\n1",
    "0" * 1000, "1" + "0" * 1000, "-1" + "0" * 1000, "9" * 1001, "9" * 5000, "*", "1*", ",", "/", ":", "~", "-00", "0-", "None",
]
NUMBER = r"(0|-?[1-9][0-9]{0,999})"
ROW = rf"{NUMBER} {NUMBER} {NUMBER}"
BODY_FORM = re.compile(rf"{ROW}(, {ROW})*:( {ROW}(, {ROW})*)?")
MOVE_FORM = re.compile(rf"{NUMBER}( {NUMBER}){{15}}")


def near(text, chance):
    """A text a sign or two away from one."""
    for step in range(chance.randint(1, 2)):
        at = chance.randint(0, len(text))
        sign = chance.choice(" ,:/*-+0123456789af" + chance.choice(SIGNS))
        text = text[:at] + chance.choice(["", sign]) + text[at + chance.randint(0, 1):]
    return text


class Bodies(unittest.TestCase):
    def test_examples(self):
        self.assertEqual(show_body(([(0, 0, 0), (4, 0, 0), (0, -4, 12)], [(0, 1, 2), (2, 1, 0)])), "0 0 0, 4 0 0, 0 -4 12: 0 1 2, 2 1 0")
        self.assertEqual(show_body(POINT), "7 -7 999999:")
        self.assertEqual(show_body(([(1, 2, 3), (4, 5, 6)], [])), "1 2 3, 4 5 6:")
        self.assertEqual(read_body("0 0 0, 4 0 0, 0 -4 12: 0 1 2"), ([(0, 0, 0), (4, 0, 0), (0, -4, 12)], [(0, 1, 2)]))
        self.assertEqual(read_body("7 -7 999999:"), POINT)

    def test_written_and_read_again(self):
        for body in BODIES + [([(999999, -999999, 0)] * 24, [])]:
            text = show_body(body)
            self.assertIs(type(text), str)
            told = asks_again(self, read_body, text)
            self.assertEqual(told, body)
            self.assertEqual(repr(told), repr(body))
            asks_again(self, show_body, body)

    def test_other_texts(self):
        for text in [
            "", ":", " ", "0 0 0", "0 0 0 :", " 0 0 0:", "0 0 0: ", "0 0 0:  ", "0 0:", "0 0 0 0:", "0  0 0:", "0 0  0:", "0 0 0,1 1 1:",
            "0 0 0 , 1 1 1:", "0 0 0,  1 1 1:", "0 0 0, :", ", 0 0 0:", "0 0 0,:", "0 0 0::", "0 0 0: :", ":0 0 0", ": 0 1 2",
            "0 0 0\n:", "0 0 0:\n", "\t0 0 0:", "0\t0\t0:", "0 0 0, 0 0 0", "0 0 0; 1 1 1:", "a b c:", "0 0 0: none", "(0, 0, 0):",
        ]:
            refused(self, NoText, read_body, text)
        corners = "0 0 1, 4 0 1, 0 4 1"
        for faces in [
            "0 1 2", "  0 1 2", " 0 1 2 ", " 0 1", " 0 1 2 3", " 0 1 2,", " 0 1 2, ", " 0 1 2,0 2 1", " 0 1 2,  0 2 1", " , 0 1 2", " ",
            " 0 1 2:", " 0 1 2: 0 1 2", "\t0 1 2", "\n0 1 2", " 0 1 2\n", " 0  1 2", " 0 1 x",
        ]:
            refused(self, NoText, read_body, corners + ":" + faces)
        self.assertEqual(read_body(corners + ": 0 1 2")[1], [(0, 1, 2)])

    def test_numbers_not_written_plainly(self):
        for number in WRONG_NUMBERS:
            for place in range(3):
                words = ["1", "2", "3"]
                words[place] = number
                refused(self, NoText, read_body, " ".join(words) + ":")
                refused(self, NoText, read_body, "1 2 3, " + " ".join(words) + ":")
                refused(self, NoText, read_body, "1 2 3, 1 2 4, 1 2 5, 2 2 2: " + " ".join(words))

    def test_what_is_then_no_body(self):
        corners = "0 0 1, 4 0 1, 0 4 1"
        for text in [
            "0 0 1000000:", "0 -1000000 0:", f"{THOUSAND} 0 0:", f"0 0 {-THOUSAND}:", ", ".join(["0 0 0"] * 25) + ":",
            corners + ": 0 1 3", corners + ": 0 1 1", corners + ": 0 1 -1", corners + ": 0 0 0", corners + ": -1 1 2",
            corners + f": 0 1 {THOUSAND}", corners + ": " + ", ".join(["0 1 2"] * 25), "0 0 0: 0 1 2",
        ]:
            refused(self, NoBody, read_body, text)
        self.assertEqual(len(read_body(", ".join(["0 0 0"] * 24) + ":")[0]), 24)
        self.assertEqual(len(read_body(corners + ": " + ", ".join(["0 1 2"] * 24))[1]), 24)

    def test_no_text_ahead_of_no_body(self):
        refused(self, NoText, read_body, "0 0 1000000")
        refused(self, NoText, read_body, "0 0 1000000: 0 1 02")
        refused(self, NoText, read_body, "0 0 1000000: 0 1 ")
        refused(self, NoText, read_body, ", ".join(["0 0 0"] * 25) + ": 0")

    def test_texts_near_to_good_ones(self):
        chance = random.Random(34)
        kinds = []
        for step in range(4000):
            text = near(show_body(chance.choice(BODIES[:4])), chance)
            try:
                told = read_body(text)
            except (NoText, NoBody) as error:
                kind = type(error)
            else:
                kind = None
                self.assertEqual(show_body(told), text)
            self.assertEqual(kind == NoText, not BODY_FORM.fullmatch(text), text)
            kinds.append(kind)
        for kind in (NoText, NoBody, None):
            self.assertGreater(kinds.count(kind), 50)


class Colours(unittest.TestCase):
    def test_examples(self):
        self.assertEqual(show_colour((0, 0, 0)), "000000")
        self.assertEqual(show_colour((255, 255, 255)), "ffffff")
        self.assertEqual(show_colour((1, 16, 171)), "0110ab")
        self.assertEqual(read_colour("0110ab"), (1, 16, 171))
        self.assertEqual(read_colour("ff0000"), RED)

    def test_every_number_at_every_place(self):
        for number in range(256):
            for colour in [(number, 0, 0), (0, number, 0), (0, 0, number), (number, 255 - number, 7)]:
                text = show_colour(colour)
                self.assertEqual(text, "".join(f"{one:02x}" for one in colour))
                self.assertEqual(read_colour(text), colour)
                self.assertIs(type(read_colour(text)), tuple)

    def test_other_texts(self):
        for text in [
            "", "0", "00000", "0000000", "FF0000", "ff000F", "gg0000", "0x0000", "#ff000", "#ff0000", " ff0000", "ff0000 ", "ff 000", "ff000 ",
            " f0000", "+f0000", "-f0000", "ff000\n", "ff0000\n", "\tf0000", "f_0000", "ff,000", "ff00/0", "ff00*2", "ff0000*2", "f" * 12,
            "0000000000000000", "none", "abcdeg", "zzzzzz",
        ]:
            refused(self, NoText, read_colour, text)

    def test_each_sign_at_each_place(self):
        for sign in SIGNS:
            for at in range(6):
                text = "0" * at + sign + "0" * (5 - at)
                if sign in "0123456789abcdef":
                    self.assertEqual(read_colour(text)[at // 2], int(sign, 16) * (1 if at % 2 else 16))
                else:
                    refused(self, NoText, read_colour, text)


class Pictures(unittest.TestCase):
    def test_examples(self):
        self.assertEqual(show_picture([[RED]]), "ff0000")
        self.assertEqual(show_picture([[RED, RED]]), "ff0000*2")
        self.assertEqual(show_picture([[RED], [RED]]), "ff0000/ff0000")
        self.assertEqual(show_picture([[RED, GREEN, GREEN, RED]]), "ff0000 00ff00*2 ff0000")
        self.assertEqual(show_picture([[RED] * 16, [GREEN] * 15 + [RED]]), "ff0000*16/00ff00*15 ff0000")
        self.assertEqual(read_picture("ff0000 00ff00*2/00ff00*3"), [[RED, GREEN, GREEN], [GREEN, GREEN, GREEN]])
        self.assertEqual(read_picture("ff0000"), [[RED]])

    def test_written_and_read_again(self):
        chance = random.Random(35)
        for wide, high in itertools.product(range(1, 17), (1, 2, 7, 16)):
            colours = [RED, GREEN, (0, 0, 0), (1, 2, 3)][:chance.randint(1, 4)]
            picture = [[chance.choice(colours) for x in range(wide)] for y in range(high)]
            text = show_picture(picture)
            self.assertEqual(text, "/".join(
                " ".join(
                    show_colour(colour) + (f"*{many}" if many > 1 else "")
                    for colour, many in [(colour, len(list(run))) for colour, run in itertools.groupby(row)]
                )
                for row in picture
            ))
            self.assertEqual(read_picture(text), picture)
        asks_again(self, read_picture, "ff0000 00ff00*2/00ff00*3")
        asks_again(self, read_picture, "/".join(["ff0000*16"] * 16))
        asks_again(self, show_picture, [[RED, RED], [GREEN, RED]])

    def test_pictures_told(self):
        things = played([("cover", 5), ("coat", COATS[3]), ("draw", TETRAHEDRON), ("move", shift(3, 2, 0)), ("draw", CUBE)])
        for board in BOARDS:
            picture = coloured(things, board, (9, 9, 9))
            self.assertEqual(read_picture(show_picture(picture)), picture)

    def test_runs(self):
        for text in [
            "ff0000*1", "ff0000*0", "ff0000*-2", "ff0000*+2", "ff0000*02", "ff0000*", "ff0000*2*2", "ff0000**2", "ff0000 *2",
            "ff0000* 2", "*2", "2*ff0000", "ff0000*a", "ff0000x2", "ff0000*2 ", "ff0000*2\n", "ff0000*17", "ff0000*999999999999",
            f"ff0000*{THOUSAND}", "ff0000*" + "9" * 1001, "ff0000*2.0", "ff0000*1 00ff00", "00ff00 ff0000*1", "FF0000*2", "ff000*2",
        ]:
            refused(self, NoText, read_picture, text)
        for many in range(2, 17):
            self.assertEqual(read_picture(f"ff0000*{many}"), [[RED] * many])

    def test_runs_that_could_be_put_together(self):
        for text in [
            "ff0000 ff0000", "ff0000*2 ff0000", "ff0000 ff0000*2", "ff0000*2 ff0000*2", "00ff00 ff0000 ff0000",
            "ff0000*2/ff0000 ff0000", "ff0000 ff0000/ff0000*2", "ff0000*9 ff0000*9",
        ]:
            refused(self, NoText, read_picture, text)
        self.assertEqual(read_picture("ff0000 00ff00 ff0000"), [[RED, GREEN, RED]])
        # At a row's end and the next one's beginning they could not.
        self.assertEqual(read_picture("00ff00 ff0000/ff0000 00ff00"), [[GREEN, RED], [RED, GREEN]])

    def test_rows(self):
        for text in [
            "", "/", " ", "ff0000/", "/ff0000", "ff0000//ff0000", "ff0000 / ff0000", "ff0000/ ff0000", "ff0000 /ff0000", "ff0000\nff0000",
            "ff0000 00ff00/ff0000", "ff0000/ff0000*2", "ff0000*2/ff0000*2/ff0000*3", "ff0000*3/ff0000*2/ff0000*2", " ff0000", "ff0000 ",
            "ff0000  00ff00", "ff0000\t00ff00", "ff0000, 00ff00", "ff0000,00ff00", "ff000000ff00", "ff0000/00ff00\n", "none",
        ]:
            refused(self, NoText, read_picture, text)

    def test_16_and_17_rows_and_dots(self):
        self.assertEqual(read_picture("/".join(["ff0000"] * 16)), [[RED]] * 16)
        refused(self, NoText, read_picture, "/".join(["ff0000"] * 17))
        alternate = " ".join(["ff0000", "00ff00"] * 8)
        self.assertEqual(read_picture(alternate), [[RED, GREEN] * 8])
        refused(self, NoText, read_picture, alternate + " ff0000")
        refused(self, NoText, read_picture, "ff0000*16 00ff00")
        refused(self, NoText, read_picture, "ff0000*8 00ff00*9")
        refused(self, NoText, read_picture, "/".join(["ff0000*8 00ff00*9"] * 3))
        self.assertEqual(read_picture("ff0000*8 00ff00*8"), [[RED] * 8 + [GREEN] * 8])
        refused(self, NoText, read_picture, "/".join(["ff0000*17"] * 17))

    def test_texts_near_to_good_ones(self):
        chance = random.Random(36)
        good = 0
        for step in range(3000):
            picture = [[chance.choice([RED, GREEN]) for x in range(3)] for y in range(2)]
            text = near(show_picture(picture), chance)
            try:
                told = read_picture(text)
            except NoText:
                continue
            self.assertEqual(show_picture(told), text)
            self.assertTrue(1 <= len(told) <= 16 and len({len(row) for row in told}) == 1 and 1 <= len(told[0]) <= 16)
            good += 1
        self.assertGreater(good, 50)


class Moves(unittest.TestCase):
    def test_examples(self):
        self.assertEqual(show_move(STILL), "1 0 0 0 0 1 0 0 0 0 1 0 0 0 0 1")
        self.assertEqual(show_move(MOVES[6]), "1 2 3 4 -5 6 -7 8 9 -10 11 12 13 14 -15 16")
        self.assertEqual(read_move("1 2 3 4 -5 6 -7 8 9 -10 11 12 13 14 -15 16"), MOVES[6])

    def test_written_and_read_again(self):
        great = ((THOUSAND, -THOUSAND, 10 ** 999, -10 ** 999),) * 4
        for move in MOVES + [great, after(MOVES[8], MOVES[8])]:
            text = show_move(move)
            self.assertIs(type(text), str)
            self.assertEqual(text, " ".join(str(number) for row in move for number in row))
            self.assertEqual(repr(read_move(text)), repr(move))

    def test_a_thousand_figures_and_more(self):
        rest = " 0" * 15
        self.assertEqual(read_move("9" * 1000 + rest)[0][0], THOUSAND)
        self.assertEqual(read_move("-" + "9" * 1000 + rest)[0][0], -THOUSAND)
        refused(self, NoText, read_move, "1" + "0" * 1000 + rest)
        refused(self, NoText, read_move, "-1" + "0" * 1000 + rest)
        refused(self, NoText, read_move, "0" * 1001 + rest)

    def test_fifteen_and_seventeen_numbers(self):
        for many in (0, 1, 4, 15, 17, 32):
            refused(self, NoText, read_move, " ".join(["1"] * many))
        self.assertEqual(read_move(" ".join(["1"] * 16)), ((1,) * 4,) * 4)

    def test_other_texts(self):
        good = show_move(STILL)
        for text in [
            " " + good, good + " ", good.replace(" ", "  ", 1), good.replace(" ", "\t"), good + "\n", "\n" + good, good.replace(" ", ", "),
            good.replace(" ", ","), f"({good})", good.replace(" 0 0 0 0 1", "/0 0 0 0 1"), good.replace("1", "one"), " ",
        ]:
            refused(self, NoText, read_move, text)
        for number in WRONG_NUMBERS:
            for place in (0, 1, 7, 15):
                words = good.split(" ")
                words[place] = number
                refused(self, NoText, read_move, " ".join(words))

    def test_texts_near_to_good_ones(self):
        chance = random.Random(37)
        good = 0
        for step in range(3000):
            text = near(show_move(chance.choice(MOVES[:7])), chance)
            if MOVE_FORM.fullmatch(text):
                self.assertEqual(show_move(read_move(text)), text)
                good += 1
            else:
                refused(self, NoText, read_move, text)
        self.assertGreater(good, 100)


if __name__ == "__main__":
    unittest.main()

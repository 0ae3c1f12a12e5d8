"""Bodies, colours, pictures and moves, written and read [34]."""

from onceshade.boards import LONGEST
from onceshade.bodies import check_body
from onceshade.errors import NoText

SIXTEEN_SIGNS = "0123456789abcdef"
MOST_FIGURES = 1000


def show_numbers(numbers):
    """Write numbers with blanks between."""
    return " ".join([str(number) for number in numbers])


def show_rows(rows):
    """Write rows of numbers with commas and blanks between."""
    return ", ".join([show_numbers(row) for row in rows])


def show_body(body):
    """Write a body."""
    corners, faces = body
    text = show_rows(corners) + ":"
    if len(faces) > 0:
        text += " " + show_rows(faces)
    return text


def show_colour(colour):
    """Write a colour: two signs for each number, by sixteens."""
    return "".join([SIXTEEN_SIGNS[number // 16] + SIXTEEN_SIGNS[number % 16] for number in colour])


def show_run(colour, many):
    """Write a colour and how many alike ones there are side by side, where they are more than one."""
    text = show_colour(colour)
    if many > 1:
        text += f"*{many}"
    return text


def show_picture_row(row):
    """Write a row of colours by its runs."""
    texts = []
    start = 0
    for at in range(1, len(row) + 1):
        if at == len(row) or row[at] != row[start]:
            texts.append(show_run(row[start], at - start))
            start = at
    return " ".join(texts)


def show_picture(picture):
    """Write a picture of colours."""
    return "/".join([show_picture_row(row) for row in picture])


def show_move(move):
    """Write a move."""
    return show_numbers([number for row in move for number in row])


def read_number(text):
    """Read a number that is written plainly."""
    figures = text[1:] if text.startswith("-") else text
    if not figures.isdigit() or len(figures) > MOST_FIGURES:
        raise NoText("a number is written by at most a thousand figures, perhaps behind a minus")
    if figures.startswith("0") and text != "0":
        raise NoText("a number has no noughts ahead, and 0 no minus")
    return int(text)


def read_numbers(text, many):
    """Read so many numbers with blanks between."""
    words = text.split(" ")
    if len(words) != many:
        raise NoText("there are more or fewer numbers than there should be")
    return tuple([read_number(word) for word in words])


def read_rows(text):
    """Read corners or faces of a body."""
    return [read_numbers(part, 3) for part in text.split(", ")]


def read_body(text):
    """Read a body."""
    corners, colon, faces = text.partition(":")
    if colon == "" or not (faces == "" or faces.startswith(" ")):
        raise NoText("a body is written as its corners, a colon, and perhaps a blank and its faces")
    body = (read_rows(corners), read_rows(faces[1:]) if faces != "" else [])
    check_body(body)
    return body


def read_colour(text):
    """Read a colour."""
    places = [SIXTEEN_SIGNS.find(sign) for sign in text]
    if len(places) != 6 or min(places) < 0:
        raise NoText("a colour is written as six signs from 0 to 9 and from a to f")
    return tuple([places[at] * 16 + places[at + 1] for at in range(0, 6, 2)])


def read_run(text):
    """Read a run: its colour, and how many there are."""
    colour, star, many = text.partition("*")
    if star == "":
        return (read_colour(colour), 1)
    number = read_number(many)
    if not 2 <= number <= LONGEST:
        raise NoText("a run with its number is of 2 to 16 dots")
    return (read_colour(colour), number)


def read_picture_row(text):
    """Read a row of a picture."""
    row = []
    for word in text.split(" "):
        colour, many = read_run(word)
        if len(row) > 0 and row[-1] == colour:
            raise NoText("two runs could be put together")
        row.extend([colour] * many)
    return row


def read_picture(text):
    """Read a picture of colours."""
    rows = [read_picture_row(part) for part in text.split("/")]
    lengths = [len(row) for row in rows]
    if len(rows) > LONGEST or max(lengths) > LONGEST or min(lengths) != max(lengths):
        raise NoText("a picture has at most 16 rows, all as long, of at most 16 dots")
    return rows


def read_move(text):
    """Read a move."""
    numbers = read_numbers(text, 16)
    return tuple([numbers[at:at + 4] for at in range(0, 16, 4)])

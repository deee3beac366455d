"""Texts of dots and places: written in one way each, and read only if written in just that way."""

from halvecut.dots import MOST_DOTS
from halvecut.errors import NoDots, NoText
from halvecut.wholes import lowest

DIGITS_OF_COORDINATE = 12
DIGITS_OF_WEIGHT = 9
DIGITS_IN_PLACE = 40
LETTERS = "abc"


def check_text(thing):
    if not isinstance(thing, str):
        raise NoText("only a text is read")


def whole_of(word):
    try:
        return int(word)
    except ValueError:
        raise NoText("a whole number is written in digits") from None


def read_whole(word, digits):
    number = whole_of(word)
    # Python reads more than it writes: a plus, needless zeros, blanks, underscores, digits of other scripts.
    if str(number) != word:
        raise NoText("a whole number is written as Python writes it")
    if len(str(abs(number))) > digits:
        raise NoText("a whole number has too many digits")
    return number


def read_colour(word):
    if len(word) != 1 or word not in LETTERS:
        raise NoText("a colour is written as a, b or c")
    return LETTERS.index(word)


def read_from_two(word, digits):
    # A weight and a by of 1 are left out, so one that is written out is greater.
    number = read_whole(word, digits)
    if number < 2:
        raise NoText("a weight or a by is written out from 2 on")
    return number


def read_dot(word):
    across = word[1:].partition(":")
    upward = across[2].partition("w")
    return (
        read_whole(across[0], DIGITS_OF_COORDINATE),
        read_whole(upward[0], DIGITS_OF_COORDINATE),
        read_colour(word[:1]),
        read_from_two(upward[2], DIGITS_OF_WEIGHT) if upward[1] == "w" else 1,
    )


def show_spot(x, y):
    return f"{x}:{y}"


def show_dot(dot):
    text = LETTERS[dot[2]] + show_spot(dot[0], dot[1])
    weight = dot[3]
    return text if weight == 1 else f"{text}w{weight}"


def read_dots(text):
    check_text(text)
    if text == "":
        return []
    dots = [read_dot(word) for word in text.split(" ")]
    if len(dots) > MOST_DOTS:
        raise NoDots("there are more than thirty dots")
    return dots


def show_dots(dots):
    return " ".join([show_dot(dot) for dot in dots])


def read_place(text):
    check_text(text)
    by = 1
    spot = text
    if "@" in text:
        parts = text.partition("@")
        by = read_from_two(parts[0], DIGITS_IN_PLACE)
        spot = parts[2]
    across = spot.partition(":")
    triple = [by, read_whole(across[0], DIGITS_IN_PLACE), read_whole(across[2], DIGITS_IN_PLACE)]
    if lowest(triple) != triple:
        raise NoText("a place is written in lowest terms")
    return (triple[0], triple[1], triple[2])


def show_place(place):
    by = place[0]
    spot = show_spot(place[1], place[2])
    return spot if by == 1 else f"{by}@{spot}"

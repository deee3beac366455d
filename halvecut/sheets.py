"""Sheets: dots that are changed by deeds, row by row, and asked questions."""

from halvecut.cuts import fair_pair, quartered
from halvecut.depths import depth
from halvecut.dots import MOST_DOTS, sent, spots_of
from halvecut.errors import NoAsk, NoDots, NoSuch, TooFew
from halvecut.groups import three_groups, two_groups
from halvecut.lines import halvers, lines_of
from halvecut.middles import deepest, middle
from halvecut.mixtures import mixture
from halvecut.texts import DIGITS_OF_COORDINATE, read_colour, read_dot, read_place, read_whole, show_dots, show_place

DIGITS_OF_NUMBER = 2
MOST_REMEMBERED = 20


def put(dots, given):
    if len(dots) >= MOST_DOTS:
        raise NoDots("there are thirty dots already")
    return dots + [given[0]]


def cut(dots, given):
    number = given[0]
    if number < 0 or number >= len(dots):
        raise NoSuch("there is no dot of this number")
    return dots[:number] + dots[number + 1:]


def mapped(dots, given):
    return sent(dots, tuple(given))


def cleared(dots, given):
    return []


def joined(numbers):
    return " ".join([str(number) for number in numbers])


def tell_dots(dots, given):
    return show_dots(dots)


def tell_lines(dots, given):
    return joined([len(lines_of(dots)), halvers(dots)])


def tell_fair(dots, given):
    pair = fair_pair(dots, given[0], given[1])
    return "none" if pair is None else joined(pair)


def tell_quarter(dots, given):
    pairs = quartered(dots)
    return "none" if pairs is None else joined(pairs[0] + pairs[1])


def tell_depth(dots, given):
    return str(depth(dots, given[0]))


def tell_middle(dots, given):
    return show_place(middle(dots))


def tell_deepest(dots, given):
    found = deepest(dots)
    return str(found[0]) + " " + show_place(found[1])


def tell_in(dots, given):
    found = mixture(spots_of(dots), given[0])
    return "in " + joined(found[1]) if found[0] == "in" else "out"


def tell_two(dots, given):
    return show_place(two_groups(spots_of(dots))[1])


def tell_three(dots, given):
    return show_place(three_groups(spots_of(dots))[1])


DEEDS = {"put": put, "cut": cut, "map": mapped, "clear": cleared}

QUESTIONS = {
    "dots": tell_dots,
    "lines": tell_lines,
    "fair": tell_fair,
    "quarter": tell_quarter,
    "depth": tell_depth,
    "middle": tell_middle,
    "deepest": tell_deepest,
    "in": tell_in,
    "two": tell_two,
    "three": tell_three,
}

# What stands behind the first word of a row.
FORMS = {
    "put": ("dot",),
    "cut": ("number",),
    "map": ("entry", "entry", "entry", "entry", "entry", "entry"),
    "clear": (),
    "back": (),
    "dots": (),
    "lines": (),
    "fair": ("letter", "letter"),
    "quarter": (),
    "depth": ("place",),
    "middle": (),
    "deepest": (),
    "in": ("place",),
    "two": (),
    "three": (),
}


def read_word(form, word):
    if form == "dot":
        return read_dot(word)
    if form == "place":
        return read_place(word)
    if form == "letter":
        return read_colour(word)
    return read_whole(word, DIGITS_OF_NUMBER if form == "number" else DIGITS_OF_COORDINATE)


def split_row(row):
    if not isinstance(row, str):
        raise NoAsk("a row is a text")
    words = row.split(" ")
    if words[0] not in FORMS:
        raise NoAsk("a row begins with a deed or a question")
    if len(words) != 1 + len(FORMS[words[0]]):
        raise NoAsk("a row has as many words as its deed or question asks for")
    return words


class Sheet:
    def __init__(self):
        self.dots = []
        self.past = []

    def ask(self, row):
        words = split_row(row)
        first = words[0]
        given = [read_word(form, word) for form, word in zip(FORMS[first], words[1:])]
        if first in QUESTIONS:
            return QUESTIONS[first](self.dots, given)
        if first == "back":
            self.go_back()
        else:
            self.change(DEEDS[first](self.dots, given))
        return str(len(self.dots))

    def change(self, dots):
        self.past = (self.past + [self.dots])[-MOST_REMEMBERED:]
        self.dots = dots

    def go_back(self):
        if len(self.past) == 0:
            raise TooFew("there is no deed to undo")
        self.dots = self.past.pop()

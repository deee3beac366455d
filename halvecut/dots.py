"""Dots (x, y, colour, weight): making, weighing and sending them by maps."""

from halvecut.errors import NoDots, NoMap
from halvecut.gauges import side
from halvecut.places import place_of
from halvecut.wholes import is_whole, reduced

MOST_DOTS = 30
MOST_COORDINATE = 999999999999
MOST_WEIGHT = 999999999


def is_within(thing, least, most):
    return is_whole(thing) and least <= thing <= most


def is_coordinate(thing):
    return is_within(thing, -MOST_COORDINATE, MOST_COORDINATE)


def made_dots(rows):
    if not isinstance(rows, list):
        raise NoDots("dots are made of a list")
    if len(rows) > MOST_DOTS:
        raise NoDots("there are more than thirty rows")
    return [made_dot(row) for row in rows]


def made_dot(row):
    if not isinstance(row, (tuple, list)) or len(row) != 4:
        raise NoDots("a row is a tuple or a list of four")
    if not is_coordinate(row[0]) or not is_coordinate(row[1]):
        raise NoDots("a coordinate is an int of at most twelve digits")
    if not is_within(row[2], 0, 2):
        raise NoDots("a colour is 0, 1 or 2")
    if not is_within(row[3], 1, MOST_WEIGHT):
        raise NoDots("a weight is an int from 1 to 999999999")
    return (row[0], row[1], row[2], row[3])


def spot_of(dot):
    return (dot[0], dot[1])


def spots_of(dots):
    return [spot_of(dot) for dot in dots]


def of_colour(dots, colour):
    return [dot for dot in dots if colour is None or dot[2] == colour]


def total(dots, colour=None):
    return sum([dot[3] for dot in of_colour(dots, colour)])


def weighed(dots, gauge, colour=None):
    weights = {-1: 0, 0: 0, 1: 0}
    for dot in of_colour(dots, colour):
        weights[side(gauge, place_of(spot_of(dot)))] += dot[3]
    return (weights[-1], weights[0], weights[1])


def is_map(thing):
    if not isinstance(thing, tuple) or len(thing) != 6:
        return False
    if not all([is_coordinate(number) for number in thing]):
        return False
    return thing[0] * thing[3] != thing[1] * thing[2]


def check_map(by_map):
    if not is_map(by_map):
        raise NoMap("a map is a tuple of six ints of at most twelve digits, with a * d other than b * c")


def moved(place, by_map):
    # A step is one by-th long, so the map's own shift e, f counts by times as many steps.
    x = by_map[0] * place[1] + by_map[1] * place[2] + by_map[4] * place[0]
    y = by_map[2] * place[1] + by_map[3] * place[2] + by_map[5] * place[0]
    return (place[0], x, y)


def sent_dot(dot, by_map):
    spot = moved(place_of(spot_of(dot)), by_map)
    if not is_coordinate(spot[1]) or not is_coordinate(spot[2]):
        raise NoDots("a coordinate would have more than twelve digits")
    return (spot[1], spot[2], dot[2], dot[3])


def sent(dots, by_map):
    check_map(by_map)
    return [sent_dot(dot, by_map) for dot in dots]


def sent_place(place, by_map):
    check_map(by_map)
    return reduced(moved(place, by_map), place[0])

"""Mixtures: which spots balance at a place, and by which shares; or a gauge that parts them from it."""

from halvecut.errors import TooFew
from halvecut.gauges import side
from halvecut.hulls import bounds, hull
from halvecut.places import arrow, place_of, turn
from halvecut.wholes import lowest, picks


def length(way):
    # Of arrows along one line this compares as well as the true length, and it is whole.
    return abs(way[0]) + abs(way[1])


def are_opposite(one, other):
    return turn(one, other) == 0 and one[0] * other[0] + one[1] * other[1] < 0


def balance_of_two(one, other):
    if not are_opposite(one, other):
        return None
    return lowest([length(other), length(one)])


def balance_of_three(one, two, three):
    turns = [turn(two, three), turn(three, one), turn(one, two)]
    if max(turns) < 0:
        turns = [-each for each in turns]
    if min(turns) <= 0:
        return None
    return lowest(turns)


def balance(ways):
    # The shares, all from 1 on, by which one, two or three arrows add up to none; None if there are
    # no such shares, or if fewer of the arrows would do.
    if len(ways) == 1:
        return [1] if length(ways[0]) == 0 else None
    if len(ways) == 2:
        return balance_of_two(ways[0], ways[1])
    return balance_of_three(ways[0], ways[1], ways[2])


def parting_gauge(spots, place):
    return [gauge for gauge in bounds(hull(spots)) if side(gauge, place) < 0][0]


def mixture(spots, place):
    if len(spots) == 0:
        raise TooFew("a mixture is made of one spot or more")
    ways = [arrow(place, place_of(spot)) for spot in spots]
    for size in (1, 2, 3):
        for numbers in picks(len(spots), size):
            shares = balance([ways[number] for number in numbers])
            if shares is not None:
                return ("in", numbers, shares)
    return ("out", parting_gauge(spots, place))

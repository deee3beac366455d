"""Places of the plane, written as (by, x, y): x and y in steps of one by-th."""

from halvecut.errors import NoPlace
from halvecut.wholes import reduced, sign


def place(by, x, y):
    if by == 0:
        raise NoPlace("a place needs a by other than 0")
    return reduced((by, x, y), by)


def place_of(spot):
    return (1, spot[0], spot[1])


def rank(one, other):
    # Each by is positive, so multiplying both sides by them keeps the order.
    across = sign(one[1] * other[0] - other[1] * one[0])
    if across != 0:
        return across
    return sign(one[2] * other[0] - other[2] * one[0])


def swing(one, two, three):
    return (
        one[0] * (two[1] * three[2] - three[1] * two[2])
        + two[0] * (three[1] * one[2] - one[1] * three[2])
        + three[0] * (one[1] * two[2] - two[1] * one[2])
    )


def arrow(one, other):
    # The way from one place to the other, longer by the product of both bys, so that it is whole.
    return (
        one[0] * other[1] - other[0] * one[1],
        one[0] * other[2] - other[0] * one[2],
    )


def turn(one, other):
    # Positive if the second arrow points to the left of the first one, negative if to its right.
    return one[0] * other[1] - other[0] * one[1]


def back(way):
    return (-way[0], -way[1])


def left_of(way):
    return (-way[1], way[0])


def mixed(places, shares):
    # All places are brought to one length of step first, so that their steps may be added up.
    steps = 1
    for each in places:
        steps = steps * each[0]
    x = 0
    y = 0
    for each, share in zip(places, shares):
        factor = share * (steps // each[0])
        x += factor * each[1]
        y += factor * each[2]
    return place(steps * sum(shares), x, y)

"""Gauges (c, a, b), which read c * by + a * x + b * y at a place, and lines among them."""

from halvecut.errors import NoLine
from halvecut.wholes import reduced, sign


def value(gauge, place):
    return gauge[0] * place[0] + gauge[1] * place[1] + gauge[2] * place[2]


def side(gauge, place):
    return sign(value(gauge, place))


def is_level(gauge):
    return gauge[1] == 0 and gauge[2] == 0


def with_share(gauge, other, share):
    return (gauge[0] + other[0] * share, gauge[1] + other[1] * share, gauge[2] + other[2] * share)


def crossed(one, other):
    # The same three products give the line of two places and the place of two lines.
    return (
        one[1] * other[2] - other[1] * one[2],
        one[2] * other[0] - other[2] * one[0],
        one[0] * other[1] - other[0] * one[1],
    )


def line(one, other):
    gauge = crossed(one, other)
    if is_level(gauge):
        raise NoLine("one place alone is on many lines")
    return reduced(gauge, gauge[1] if gauge[1] != 0 else gauge[2])


def crossing(one, other):
    common = crossed(one, other)
    if common[0] == 0:
        return None
    return reduced(common, common[0])


def facing(place, way):
    # The gauge that the place is on, and whose places over it lie in the way of that arrow.
    return (
        -(way[0] * place[1] + way[1] * place[2]),
        way[0] * place[0],
        way[1] * place[0],
    )

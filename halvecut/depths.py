"""Depth: the least weight of a half plane that contains a place, and a gauge that has it."""

from halvecut.dots import spot_of, weighed
from halvecut.gauges import facing
from halvecut.places import arrow, back, left_of, place_of, turn


def plane_weight(dots, gauge):
    split = weighed(dots, gauge)
    return split[1] + split[2]


def ways_to(dots, place):
    # The ways to all dots elsewhere, and back: along just these a line through the place has another dot.
    ways = [arrow(place, place_of(spot_of(dot))) for dot in dots]
    ways = [way for way in ways if way != (0, 0)]
    return ways + [back(way) for way in ways]


def free_way(way, ways):
    # A way just left of this one, ahead of all others there, so that its line has no dot but at the place.
    nearest = left_of(way)
    for other in ways:
        if turn(way, other) > 0 and turn(other, nearest) > 0:
            nearest = other
    return (way[0] + nearest[0], way[1] + nearest[1])


def lightest(dots, place):
    ways = ways_to(dots, place)
    if len(ways) == 0:
        return facing(place, (1, 0))
    # A dot on the rim of a half plane weighs, so the least weight is had with rims that have no dot elsewhere.
    gauges = [facing(place, left_of(free_way(way, ways))) for way in ways]
    return min(gauges, key=lambda gauge: plane_weight(dots, gauge))


def depth(dots, place):
    return plane_weight(dots, lightest(dots, place))

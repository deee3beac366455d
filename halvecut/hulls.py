"""Hulls, told by their corners, and the gauges that bound them."""

from halvecut.gauges import crossed, facing
from halvecut.places import arrow, back, left_of, place_of, swing


def chain(places):
    kept = []
    for each in places:
        while len(kept) > 1 and swing(kept[-2], kept[-1], each) <= 0:
            kept.pop()
        kept.append(each)
    return kept


def hull(spots):
    places = [place_of(spot) for spot in sorted(set(spots))]
    if len(places) < 2:
        return places
    # Each chain ends where the other begins.
    return chain(places)[:-1] + chain(places[::-1])[:-1]


def thin_bounds(one, other):
    # What has no inside is bounded by four gauges: two across its length and two along it.
    along = arrow(one, other) if one != other else (1, 0)
    across = left_of(along)
    return [facing(one, along), facing(other, back(along)), facing(one, across), facing(one, back(across))]


def bounds(corners):
    # Gauges such that a place is over or on all of them exactly if it is in the hull of these corners.
    if len(corners) < 3:
        return thin_bounds(corners[0], corners[-1])
    # Over the gauge of two corners is what lies left of the way from one to the other.
    return [crossed(corners[index - 1], corners[index]) for index in range(len(corners))]

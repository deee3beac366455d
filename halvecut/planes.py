"""Half planes, told by their gauges: what corners they leave, and which of them have no common place."""

from halvecut.gauges import side, value
from halvecut.mixtures import balance
from halvecut.places import place, rank
from halvecut.wholes import picks


def place_between(one, other, gauge):
    # The readings at the two places differ in sign; weighed crosswise by them, the two make a place on the gauge.
    here = value(gauge, one)
    there = value(gauge, other)
    return place(
        there * one[0] - here * other[0],
        there * one[1] - here * other[1],
        there * one[2] - here * other[2],
    )


def clipped(corners, gauge):
    kept = []
    for index in range(len(corners)):
        one = corners[index - 1]
        other = corners[index]
        if side(gauge, one) * side(gauge, other) < 0:
            kept.append(place_between(one, other, gauge))
        if side(gauge, other) >= 0:
            kept.append(other)
    # A segment is walked there and back, so the place where it is cut comes twice.
    return [kept[index] for index in range(len(kept)) if kept[index] not in kept[:index]]


def common(corners, gauges):
    # What remains of a hull, told by its corners, within all these half planes.
    for gauge in gauges:
        corners = clipped(corners, gauge)
    return corners


def led(corners):
    # The same corners, the least ranked one first.
    first = 0
    for index in range(len(corners)):
        if rank(corners[index], corners[first]) < 0:
            first = index
    return corners[first:] + corners[:first]


def last_needed(corners, gauges):
    last = -1
    while len(corners) > 0:
        last += 1
        corners = clipped(corners, gauges[last])
    return last


def constant(gauges, numbers, shares):
    return sum([gauges[number][0] * share for number, share in zip(numbers, shares)])


def bars(corners, gauges):
    # The gauges, with those that bound the corners in front, have half planes without a common place. Two or three
    # of them are enough to show it: answered are pairs (index, share) by which these add up to (c, 0, 0) with
    # c negative. The half planes ahead of the last one needed do have a common place, so it is among them.
    last = last_needed(corners, gauges)
    for others in picks(last, 1) + picks(last, 2):
        numbers = others + [last]
        shares = balance([gauges[number][1:] for number in numbers])
        if shares is not None and constant(gauges, numbers, shares) < 0:
            return list(zip(numbers, shares))

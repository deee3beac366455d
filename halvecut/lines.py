"""The lines of dots: all lines that have two dots on different spots, with the weights beside them."""

from halvecut.dots import spot_of, total, weighed
from halvecut.gauges import line
from halvecut.places import place_of
from halvecut.wholes import picks


def on_two_spots(dots, pair):
    return spot_of(dots[pair[0]]) != spot_of(dots[pair[1]])


def spot_pairs(dots):
    # In Python's order of tuples, so that the first pair found to be fit is the least.
    pairs = [(pick[0], pick[1]) for pick in picks(len(dots), 2)]
    return [pair for pair in pairs if on_two_spots(dots, pair)]


def pair_line(dots, pair):
    return line(place_of(spot_of(dots[pair[0]])), place_of(spot_of(dots[pair[1]])))


def split_by(dots, lines):
    return [(each,) + weighed(dots, each) for each in sorted(set(lines))]


def pair_lines(dots):
    return [pair_line(dots, pair) for pair in spot_pairs(dots)]


def lines_of(dots):
    return split_by(dots, pair_lines(dots))


def is_even(under, over, whole):
    # Doubled instead of halved, for half of an odd weight is no whole number.
    return 2 * max(under, over) <= whole


def halvers(dots):
    whole = total(dots)
    return len([row for row in lines_of(dots) if is_even(row[1], row[3], whole)])

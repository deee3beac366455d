"""Fair cuts: the least pair of dots whose line is fair to two colours, and two pairs that quarter all dots."""

from halvecut.dots import spot_of, total, weighed
from halvecut.gauges import side
from halvecut.lines import is_even, pair_line, spot_pairs
from halvecut.places import place_of


def is_fair(dots, gauge, colour):
    split = weighed(dots, gauge, colour)
    return is_even(split[0], split[2], total(dots, colour))


def first_fair(dots, pairs, colours):
    for pair in pairs:
        gauge = pair_line(dots, pair)
        if all([is_fair(dots, gauge, colour) for colour in colours]):
            return pair
    return None


def has_colours(dots, pair, colours):
    return dots[pair[0]][2] in colours and dots[pair[1]][2] in colours


def fair_pair(dots, one, other):
    colours = (one, other)
    pairs = [pair for pair in spot_pairs(dots) if has_colours(dots, pair, colours)]
    return first_fair(dots, pairs, colours)


def quarters(dots, gauge, other):
    weights = {(-1, -1): 0, (-1, 1): 0, (1, -1): 0, (1, 1): 0}
    for dot in dots:
        spot = place_of(spot_of(dot))
        sides = (side(gauge, spot), side(other, spot))
        if sides in weights:
            weights[sides] += dot[3]
    return list(weights.values())


def first_quartering(dots, pairs, gauge):
    whole = total(dots)
    for pair in pairs:
        if 4 * max(quarters(dots, gauge, pair_line(dots, pair))) <= whole:
            return pair
    return None


def quartered(dots):
    pairs = spot_pairs(dots)
    if len(pairs) == 0:
        return None
    # All colours together are told as None.
    first = first_fair(dots, pairs, (None,))
    return (first, first_quartering(dots, pairs, pair_line(dots, first)))

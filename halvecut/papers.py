"""Papers: each states something about dots, and can be asked whether that holds for any given dots."""

from halvecut.cuts import fair_pair, is_fair, quartered, quarters
from halvecut.depths import depth, plane_weight
from halvecut.dots import is_within, spot_of, spots_of, total
from halvecut.errors import TooFew
from halvecut.gauges import is_level, side, with_share
from halvecut.groups import three_groups, two_groups
from halvecut.lines import pair_line
from halvecut.middles import deepest
from halvecut.places import mixed, place_of
from halvecut.wholes import is_whole


def is_share(thing):
    return is_whole(thing) and thing >= 1


def are_shares(things):
    return all([is_share(thing) for thing in things])


def are_numbers(things, dots):
    # Only what is known to be numbers of dots can be put in order without a failure.
    if not all([is_within(thing, 0, len(dots) - 1) for thing in things]):
        return False
    return things == sorted(set(things))


def places_at(dots, numbers):
    return [place_of(spot_of(dots[number])) for number in numbers]


def copied_groups(groups):
    return [(list(numbers), list(shares)) for numbers, shares in groups]


class Paper:
    def holds(self, dots):
        return False

    def told(self):
        return ()


class HalfPaper(Paper):
    def __init__(self, gauge, one, other):
        self.gauge = gauge
        self.one = one
        self.other = other

    def holds(self, dots):
        if is_level(self.gauge):
            return False
        return is_fair(dots, self.gauge, self.one) and is_fair(dots, self.gauge, self.other)

    def told(self):
        return (self.gauge, self.one, self.other)


class QuarterPaper(Paper):
    def __init__(self, gauge, other):
        self.gauge = gauge
        self.other = other

    def holds(self, dots):
        if is_level(self.gauge) or is_level(self.other):
            return False
        return 4 * max(quarters(dots, self.gauge, self.other)) <= total(dots)

    def told(self):
        return (self.gauge, self.other)


class DeepPaper(Paper):
    def __init__(self, place, least):
        self.place = place
        self.least = least

    def holds(self, dots):
        return depth(dots, self.place) >= self.least

    def told(self):
        return (self.place, self.least)


class ShallowPaper(Paper):
    def __init__(self, most, bars):
        self.most = most
        self.bars = list(bars)

    def holds(self, dots):
        if len(self.bars) < 2:
            return False
        least = total(dots) - self.most
        summed = (0, 0, 0)
        for gauge, share in self.bars:
            if is_level(gauge) or not is_share(share) or plane_weight(dots, gauge) < least:
                return False
            summed = with_share(summed, gauge, share)
        return is_level(summed) and summed[0] < 0

    def told(self):
        return (self.most, list(self.bars))


class InPaper(Paper):
    def __init__(self, numbers, shares, place):
        self.numbers = list(numbers)
        self.shares = list(shares)
        self.place = place

    def holds(self, dots):
        if len(self.numbers) == 0 or len(self.numbers) != len(self.shares):
            return False
        if not are_numbers(self.numbers, dots) or not are_shares(self.shares):
            return False
        return mixed(places_at(dots, self.numbers), self.shares) == self.place

    def told(self):
        return (list(self.numbers), list(self.shares), self.place)


class OutPaper(Paper):
    def __init__(self, gauge, place):
        self.gauge = gauge
        self.place = place

    def holds(self, dots):
        if side(self.gauge, self.place) >= 0:
            return False
        return all([side(self.gauge, place_of(spot)) >= 0 for spot in spots_of(dots)])

    def told(self):
        return (self.gauge, self.place)


class GroupsPaper(Paper):
    def __init__(self, groups, place):
        self.groups = copied_groups(groups)
        self.place = place

    def holds(self, dots):
        if len(self.groups) < 2:
            return False
        taken = []
        for numbers, shares in self.groups:
            if not InPaper(numbers, shares, self.place).holds(dots):
                return False
            taken.extend(numbers)
        return len(set(taken)) == len(taken)

    def told(self):
        return (copied_groups(self.groups), self.place)


def half_paper(dots):
    pair = fair_pair(dots, 0, 1)
    if pair is None:
        raise TooFew("the dots of the colours 0 and 1 have no two spots")
    return HalfPaper(pair_line(dots, pair), 0, 1)


def quarter_paper(dots):
    pairs = quartered(dots)
    if pairs is None:
        raise TooFew("the dots have no two spots")
    return QuarterPaper(pair_line(dots, pairs[0]), pair_line(dots, pairs[1]))


def deep_paper(dots):
    found = deepest(dots)
    return DeepPaper(found[1], found[0])


def shallow_paper(dots):
    found = deepest(dots)
    return ShallowPaper(found[0], found[2])


def two_paper(dots):
    found = two_groups(spots_of(dots))
    return GroupsPaper(found[0], found[1])


def three_paper(dots):
    found = three_groups(spots_of(dots))
    return GroupsPaper(found[0], found[1])


MAKERS = {
    "half": half_paper,
    "quarter": quarter_paper,
    "deep": deep_paper,
    "shallow": shallow_paper,
    "two": two_paper,
    "three": three_paper,
}


def paper_for(dots, word):
    return MAKERS[word](dots)

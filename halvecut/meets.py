"""Hulls that meet: a place in all of them, or gauges of two or three of them that show that there is none."""

from halvecut.gauges import with_share
from halvecut.hulls import bounds, hull
from halvecut.mixtures import mixture
from halvecut.planes import bars, common


def owned_gauges(lists):
    found = []
    for index, spots in enumerate(lists):
        found.extend([(index, gauge) for gauge in bounds(hull(spots))])
    return found


def bar_rows(owned, shares):
    # Two of the gauges may belong to one list: its spots are over or on their sum as well.
    sums = {}
    for number, share in shares:
        owner = owned[number][0]
        sums[owner] = with_share(sums.get(owner, (0, 0, 0)), owned[number][1], share)
    return [(owner, sums[owner]) for owner in sorted(sums)]


def hulls_meet(lists):
    owned = owned_gauges(lists)
    gauges = [pair[1] for pair in owned]
    first = hull(lists[0])
    shared = common(first, gauges)
    if len(shared) == 0:
        return ("bar", bar_rows(owned, bars(first, gauges)))
    return ("meet", shared[0], [mixture(spots, shared[0])[1:] for spots in lists])

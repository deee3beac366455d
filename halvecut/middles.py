"""Regions of depth, the middle of dots, and the deepest place with what shows that none is deeper."""

from halvecut.dots import spots_of, total
from halvecut.errors import NoSuch, TooFew, TooMany
from halvecut.hulls import bounds, hull
from halvecut.lines import pair_lines, split_by
from halvecut.planes import bars, common, led

MOST_FOR_DEEPEST = 12


def axis_lines(dots):
    return [(-dot[0], 1, 0) for dot in dots] + [(-dot[1], 0, 1) for dot in dots]


def opposite(gauge):
    return (-gauge[0], -gauge[1], -gauge[2])


def half_planes(dots):
    # Rows (gauge, weight over it, weight over or on it). A half plane whose rim turns about one dot keeps its
    # weight until the rim meets another one; where it starts and where it ends say all if that is less than a
    # half turn. With the upright and the level lines it is, even if all dots are on one line or one spot.
    found = []
    for row in split_by(dots, pair_lines(dots) + axis_lines(dots)):
        found.append((row[0], row[3], row[3] + row[2]))
        found.append((opposite(row[0]), row[1], row[1] + row[2]))
    return found


def rims(planes, weight):
    # Half planes of at least this weight that would have less if they were moved inward at all.
    return [row[0] for row in planes if row[1] < weight <= row[2]]


def hull_of(dots):
    return hull(spots_of(dots))


def region_within(dots, planes, least):
    # A place is less deep exactly if it is outside of some half plane whose outside weighs less than least.
    weight = total(dots) - least + 1
    return led(common(hull_of(dots), rims(planes, weight)))


def region(dots, least):
    if least < 1 or least > total(dots):
        raise NoSuch("a depth is from 1 to the weight of all dots")
    return region_within(dots, half_planes(dots), least)


def middle(dots):
    if len(dots) == 0:
        raise TooFew("no dots have no middle")
    return region(dots, (total(dots) + 2) // 3)[0]


def greatest_depth(dots, planes):
    # A region holds all deeper ones, so the search may go by halves.
    reached = 1
    most = total(dots)
    while reached < most:
        tried = (reached + most + 1) // 2
        if len(region_within(dots, planes, tried)) > 0:
            reached = tried
        else:
            most = tried - 1
    return reached


def shallow_bars(dots, planes, found):
    weight = total(dots) - found
    if weight == 0:
        # All dots share one spot; any half planes without a common place will do, whatever they weigh.
        return [((-1, 1, 0), 1), ((0, -1, 0), 1)]
    corners = hull_of(dots)
    gauges = bounds(corners) + rims(planes, weight)
    return [(gauges[number], share) for number, share in bars(corners, gauges)]


def deepest(dots):
    if len(dots) == 0:
        raise TooFew("no dots have no deepest place")
    if len(dots) > MOST_FOR_DEEPEST:
        raise TooMany("the deepest place is found among at most twelve dots")
    planes = half_planes(dots)
    found = greatest_depth(dots, planes)
    return (found, region_within(dots, planes, found)[0], shallow_bars(dots, planes, found))

"""What several test files draw on: strewn dots that are the same in every run, maps, and slow counts."""

from fractions import Fraction

FAR = 999999999999
HEAVY = 999999999

MAPS = {
    "still": (1, 0, 0, 1, 0, 0),
    "turned": (0, -1, 1, 0, 0, 0),
    "turned about": (-1, 0, 0, -1, 3, 1),
    "moved": (1, 0, 0, 1, 51, -72),
    "stretched": (3, 0, 0, 2, 0, 0),
    "mirrored": (-1, 0, 0, 1, 0, 0),
    "mirrored aslant": (0, 1, 1, 0, 4, 4),
    "all at once": (2, 3, -1, 5, 11, -13),
    "all at once, mirrored": (2, 7, 1, -4, -9, 6),
}


def numbers(seed):
    """Endless ints that look strewn, but depend on the seed alone."""
    state = seed * 2654435761 + 12345
    while True:
        state = (state * 6364136223846793005 + 1442695040888963407) % 2 ** 64
        yield state >> 20


def spread(seed, count, reach):
    """Spots with coordinates from -reach to reach."""
    source = numbers(seed)
    return [
        (next(source) % (2 * reach + 1) - reach, next(source) % (2 * reach + 1) - reach)
        for number in range(count)
    ]


def strewn(seed, count, reach, heaviest=1):
    """Dots with such spots, colours in no order, weights from 1 to heaviest."""
    source = numbers(seed + 1000)
    return [
        (x, y, next(source) % 3, next(source) % heaviest + 1)
        for x, y in spread(seed, count, reach)
    ]


def spots_of(dots):
    return [dot[:2] for dot in dots]


def painted(spots, colour=0, weight=1):
    return [(x, y, colour, weight) for x, y in spots]


def copied(answer):
    """The same answer, with lists of its own."""
    if isinstance(answer, (list, tuple)):
        return type(answer)(copied(part) for part in answer)
    return answer


def spoil(answer):
    """Changes every list within an answer."""
    for part in answer:
        if isinstance(part, (list, tuple)):
            spoil(part)
    if isinstance(answer, list):
        answer.clear()
        answer.append("other")


def turn(one, two, three):
    """Above 0 if three spots run counterclockwise; the coordinates may be fractions."""
    return (two[0] - one[0]) * (three[1] - one[1]) - (three[0] - one[0]) * (two[1] - one[1])


def beside(dots, i, j):
    """The weights on either side of the directed line from dot i to dot j: right and left."""
    turns = [(turn(dots[i], dots[j], dot), dot[3]) for dot in dots]
    return (sum(weight for side, weight in turns if side < 0), sum(weight for side, weight in turns if side > 0))


def point(where):
    """A place as two fractions."""
    return (Fraction(where[1], where[0]), Fraction(where[2], where[0]))


def slow_depth(dots, where):
    """Over all lines through the place and a dot, turned ever so little either way, the lightest side."""
    by, x, y = where
    ways = [(by * dot[0] - x, by * dot[1] - y, dot[3]) for dot in dots]
    here = sum(weight for right, up, weight in ways if right == up == 0)
    lightest = sum(weight for right, up, weight in ways)
    for right, up, unused in ways:
        if right == up == 0:
            continue
        left = after = before = 0
        for across, above, weight in ways:
            turned = right * above - across * up
            along = right * across + up * above
            left += weight if turned > 0 else 0
            after += weight if turned == 0 and along > 0 else 0
            before += weight if turned == 0 and along < 0 else 0
        rest = sum(weight for across, above, weight in ways) - left - after - before - here
        # Turned to the left, the line leaves the dots ahead on its right and those behind on its left.
        lightest = min(lightest, here + left + min(after, before), here + rest + min(after, before))
    return lightest

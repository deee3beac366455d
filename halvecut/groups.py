"""Groups: spots dealt into two or three groups whose hulls have a common place."""

from halvecut.errors import TooFew
from halvecut.meets import hulls_meet
from halvecut.wholes import picks

# A place in the hull of many spots is a mixture of three of them, and the others may go to another group.
# So of the first four spots, and of the first seven, no other sizes of groups need to be tried.
SIZES_OF_TWO = ((1, 3), (2, 2))
SIZES_OF_THREE = ((1, 3, 3), (2, 2, 3))


def deals(numbers, sizes):
    # All ways to deal these numbers into groups of these sizes, each group rising.
    if len(sizes) == 0:
        return [[]]
    found = []
    for pick in picks(len(numbers), sizes[0]):
        group = [numbers[index] for index in pick]
        rest = [number for number in numbers if number not in group]
        found.extend([[group] + others for others in deals(rest, sizes[1:])])
    return found


def spots_at(spots, numbers):
    return [spots[number] for number in numbers]


def part_of(group, part):
    # What was found counts within the group; the answer counts within all spots.
    return ([group[index] for index in part[0]], part[1])


def dealt(spots, sizes):
    for groups in deals(list(range(sum(sizes))), sizes):
        found = hulls_meet([spots_at(spots, group) for group in groups])
        if found[0] == "meet":
            return ([part_of(group, part) for group, part in zip(groups, found[2])], found[1])
    return None


def first_dealt(spots, choices):
    for sizes in choices:
        found = dealt(spots, sizes)
        if found is not None:
            return found
    return None


def two_groups(spots):
    if len(spots) < 4:
        raise TooFew("two groups are dealt of four spots or more")
    return first_dealt(spots, SIZES_OF_TWO)


def three_groups(spots):
    if len(spots) < 7:
        raise TooFew("three groups are dealt of seven spots or more")
    return first_dealt(spots, SIZES_OF_THREE)

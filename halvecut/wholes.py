"""Whole numbers: what counts as one, signs, lowest terms, and rising lists of indexes."""


def is_whole(thing):
    # Python has True and False under int; here they are no numbers.
    return isinstance(thing, int) and not isinstance(thing, bool)


def sign(number):
    if number > 0:
        return 1
    if number < 0:
        return -1
    return 0


def common_divisor(one, other):
    while other != 0:
        rest = one % other
        one = other
        other = rest
    return abs(one)


def lowest(numbers):
    divisor = 0
    for number in numbers:
        divisor = common_divisor(divisor, number)
    return [number // divisor for number in numbers]


def reduced(triple, lead):
    # Places and lines have one way to be written each: besides the common divisor,
    # the sign of the lead (by for a place, the first of a and b that is not 0 for a line) goes out.
    divisor = common_divisor(common_divisor(triple[0], triple[1]), triple[2])
    if lead < 0:
        divisor = -divisor
    return (triple[0] // divisor, triple[1] // divisor, triple[2] // divisor)


def picks(count, size):
    # All rising lists of so many indexes below count; each is built on the ones before it,
    # so they stand in Python's order of lists.
    found = [[]]
    for length in range(size):
        longer = []
        for pick in found:
            first = pick[-1] + 1 if length > 0 else 0
            longer.extend([pick + [number] for number in range(first, count)])
        found = longer
    return found

import unittest
from fractions import Fraction
from itertools import combinations
from math import gcd

from halvecut.dots import sent_place
from halvecut.errors import PlaneError, TooFew
from halvecut.gauges import side
from halvecut.mixtures import mixture
from halvecut.places import mixed, place, place_of
from helpers import FAR, MAPS, spread, turn

BIG = 10 ** 39 + 7


def slow_numbers(spots, where):
    """The shortest and least list of numbers, or None: every triangle, segment and spot is looked at."""
    at = (Fraction(where[1], where[0]), Fraction(where[2], where[0]))
    for number, spot in enumerate(spots):
        if spot == at:
            return [number]
    for i, j in combinations(range(len(spots)), 2):
        low, high = sorted([spots[i], spots[j]])
        if turn(low, high, at) == 0 and low <= at <= high and low != high:
            return [i, j]
    for i, j, k in combinations(range(len(spots)), 3):
        turns = [turn(spots[i], spots[j], at), turn(spots[j], spots[k], at), turn(spots[k], spots[i], at)]
        if turn(spots[i], spots[j], spots[k]) != 0 and (min(turns) >= 0 or max(turns) <= 0):
            return [i, j, k]
    return None


class MixtureTest(unittest.TestCase):
    def check(self, spots, where):
        given = list(spots)
        found = mixture(spots, where)
        self.assertEqual(spots, given)
        self.assertIs(type(found), tuple)
        numbers = slow_numbers(given, where)
        if numbers is None:
            self.check_out(spots, where, found)
            return found
        self.assertEqual(found[0], "in")
        self.assertEqual(len(found), 3)
        self.assertEqual(found[1], numbers)
        shares = found[2]
        self.assertEqual([type(found[1]), type(shares)], [list, list])
        self.assertEqual(len(shares), len(numbers))
        self.assertTrue(all(type(share) is int and share >= 1 for share in shares))
        self.assertEqual(gcd(*shares), 1)
        self.assertEqual(mixed([place_of(spots[number]) for number in numbers], shares), where)
        return found

    def check_out(self, spots, where, found):
        self.assertEqual(found[0], "out")
        self.assertEqual(len(found), 2)
        gauge = found[1]
        self.assertIs(type(gauge), tuple)
        self.assertEqual([type(number) for number in gauge], [int, int, int])
        self.assertTrue(all(side(gauge, place_of(spot)) >= 0 for spot in spots))
        self.assertEqual(side(gauge, where), -1)

    def test_on_a_spot(self):
        self.assertEqual(mixture([(3, 4)], (1, 3, 4)), ("in", [0], [1]))
        self.assertEqual(mixture([(0, 0), (2, 0), (1, 0), (1, 5)], (1, 1, 0)), ("in", [2], [1]))
        self.assertEqual(mixture([(0, 0), (4, 0), (0, 4), (1, 1), (1, 1)], (1, 1, 1)), ("in", [3], [1]))

    def test_on_a_segment(self):
        self.assertEqual(mixture([(0, 0), (3, 6)], (1, 1, 2)), ("in", [0, 1], [2, 1]))
        self.assertEqual(mixture([(3, 6), (0, 0)], (1, 1, 2)), ("in", [0, 1], [1, 2]))
        self.assertEqual(mixture([(0, 0), (4, 0)], (2, 1, 0)), ("in", [0, 1], [7, 1]))
        self.assertEqual(mixture([(0, 0), (0, 4)], (1, 0, 2)), ("in", [0, 1], [1, 1]))
        self.assertEqual(mixture([(5, -3), (5, 9)], (1, 5, 0)), ("in", [0, 1], [3, 1]))

    def test_inside_a_triangle(self):
        self.assertEqual(mixture([(0, 0), (3, 0), (0, 3)], (1, 1, 1)), ("in", [0, 1, 2], [1, 1, 1]))
        self.assertEqual(mixture([(0, 3), (3, 0), (0, 0)], (1, 1, 1)), ("in", [0, 1, 2], [1, 1, 1]))
        self.assertEqual(mixture([(0, 0), (4, 0), (0, 4)], (1, 1, 1)), ("in", [0, 1, 2], [2, 1, 1]))
        self.assertEqual(mixture([(0, 0), (6, 0), (0, 6)], (2, 3, 1)), ("in", [0, 1, 2], [8, 3, 1]))

    def test_shortest_comes_before_least(self):
        # [0, 1, 2] has the place too, but [3] and [1, 2] are shorter.
        self.assertEqual(mixture([(0, 0), (6, 0), (0, 6), (2, 2)], (1, 2, 2)), ("in", [3], [1]))
        self.assertEqual(mixture([(9, 9), (6, 0), (0, 6), (-9, -9)], (1, 3, 3))[1], [0, 3])
        self.assertEqual(mixture([(-9, 0), (6, 0), (0, 6), (0, -9)], (1, 3, 3)), ("in", [1, 2], [1, 1]))

    def test_least_of_that_length(self):
        # Both diagonals and, of three, several triangles have the place.
        square = [(0, 0), (4, 0), (4, 4), (0, 4)]
        self.assertEqual(mixture(square, (1, 2, 2)), ("in", [0, 2], [1, 1]))
        self.assertEqual(mixture(square, (1, 2, 1)), ("in", [0, 1, 2], [2, 1, 1]))
        self.assertEqual(mixture(square, (1, 1, 2)), ("in", [0, 1, 3], [1, 1, 2]))
        self.assertEqual(mixture([(9, 9)] + square, (1, 1, 2))[1], [0, 1, 4])

    def test_equal_spots(self):
        self.assertEqual(mixture([(1, 1), (1, 1), (1, 1)], (1, 1, 1)), ("in", [0], [1]))
        self.assertEqual(mixture([(0, 0), (0, 0), (2, 2), (2, 2)], (1, 1, 1)), ("in", [0, 2], [1, 1]))
        self.assertEqual(mixture([(0, 0), (0, 0), (3, 0), (3, 0), (0, 3)], (1, 1, 1))[1], [0, 2, 4])
        self.check([(0, 0), (0, 0), (2, 2)], (1, 3, 3))
        self.check([(4, 4)] * 30, (1, 4, 5))

    def test_spots_on_one_line(self):
        for x, y in [(1, 0), (0, 1), (2, -3)]:
            spots = [(x * step, y * step) for step in (0, 5, 2, 9, 2)]
            for step in range(-4, 24):
                self.check(spots, place(2, x * step, y * step))
                self.check(spots, place(2, x * step - y, y * step + x))
            self.assertEqual(mixture(spots, (1, x, y)), ("in", [0, 1], [4, 1]))
            self.assertEqual(mixture(spots, (1, 6 * x, 6 * y)), ("in", [0, 3], [1, 2]))

    def test_one_spot(self):
        for where in [(1, 3, 4), (1, 3, 5), (1, 2, 4), (1, 4, 3), (2, 7, 8), (1, 3, -BIG), (BIG, 3, 4)]:
            self.check([(3, 4)], where)

    def test_outside(self):
        spots = [(0, 0), (4, 0), (4, 4), (0, 4)]
        for where in [(1, -1, 2), (1, 5, 2), (1, 2, -1), (1, 2, 5), (1, 5, 5), (1, -1, -1), (1000, -1, 0), (3, 13, 12)]:
            self.assertEqual(self.check(spots, where)[0], "out")

    def test_grid_of_places(self):
        for seed in range(12):
            spots = spread(seed, 1 + seed % 7, 3)
            for by in (1, 2, 3):
                for x in range(-4 * by, 4 * by + 1, 2):
                    for y in range(-4 * by, 4 * by + 1, 2):
                        if gcd(by, x, y) == 1:
                            with self.subTest(spots=spots, where=(by, x, y)):
                                self.check(spots, (by, x, y))

    def test_places_of_many_digits(self):
        spots = [(0, 0), (4, 0), (0, 4), (-3, -5)]
        for where in [
            (BIG, 1, 1), (BIG, BIG + 1, 1), (BIG, 4 * BIG - 1, 0), (BIG, 4 * BIG + 1, 0), (BIG, 2 * BIG, 2 * BIG + 1),
            (BIG, 2 * BIG, 2 * BIG - 1), (1, BIG, BIG), (1, -BIG, 3), (BIG, BIG - 1, BIG + 1), (BIG - 1, 1, -1),
        ]:
            with self.subTest(where=where):
                self.check(spots, where)

    def test_twelve_digits(self):
        for seed in range(8):
            spots = spread(20 + seed, 6, FAR)
            middle = mixed([place_of(spot) for spot in spots], [1, 2, 3, 4, 5, 6])
            self.check(spots, middle)
            self.check(spots, mixed([place_of(spots[2]), place_of(spots[5])], [FAR, 7]))
            self.check(spots, (1, FAR, -FAR))
        corners = [(-FAR, -FAR), (FAR, -FAR), (FAR, FAR), (-FAR, FAR)]
        self.check(corners, (FAR, 1, -1))
        self.check(corners, (BIG, 1, 2))
        self.check(corners, (FAR, FAR * FAR + 1, 0))

    def test_thirty_spots(self):
        for seed, reach in [(31, 4), (32, 1000), (33, FAR)]:
            spots = spread(seed, 30, reach)
            self.check(spots, mixed([place_of(spot) for spot in spots[:8]], [1] * 8))
            self.check(spots, mixed([place_of(spot) for spot in spots[22:]], [3, 1, 4, 1, 5, 9, 2, 6]))
            self.check(spots, place_of(spots[29]))
            self.check(spots, mixed([place_of(spots[28]), place_of(spots[29])], [2, 3]))
            self.check(spots, (3, 4 * reach, 1))
            self.check(spots, (BIG, 1, BIG))
        spots = [(100, 0)] * 27 + [(0, 0), (3, 1), (1, 3)]
        self.assertEqual(self.check(spots, (3, 4, 5))[1], [0, 27, 29])
        spots = [(100, 0)] * 27 + [(0, 0), (3, 1), (1, 5)]
        self.assertEqual(self.check(spots, (1, 2, 3)), ("in", [28, 29], [1, 1]))

    def test_no_spots(self):
        for where in [(1, 0, 0), (7, 3, 2), (BIG, 1, 1)]:
            with self.assertRaises(TooFew) as caught:
                mixture([], where)
            self.assertIsInstance(caught.exception, PlaneError)

    def test_what_came_back_is_the_callers_own(self):
        spots = [(0, 0), (4, 0), (0, 4), (1, 1)]
        for where in [(1, 1, 1), (1, 2, 2), (2, 1, 1), (1, 1, 2), (1, 9, 9)]:
            first = mixture(spots, where)
            kept = tuple(list(part) if isinstance(part, list) else part for part in first)
            for part in first[1:]:
                if isinstance(part, list):
                    part.append(99)
                    part[0] = 98
            mixture([(7, 7)], where)
            self.assertEqual(mixture(spots, where), kept)
        self.assertEqual(spots, [(0, 0), (4, 0), (0, 4), (1, 1)])

    def test_numbers_and_shares_stay_if_all_is_sent(self):
        for seed in range(6):
            spots = spread(60 + seed, 3 + seed, 5)
            for where in [(1, 0, 0), (2, 1, 3), (3, -4, 2), (1, 9, 0), place_of(spots[-1]), (5, 2, -6)]:
                for name, by_map in MAPS.items():
                    with self.subTest(seed=seed, where=where, map=name):
                        there = [sent_place(place_of(spot), by_map)[1:] for spot in spots]
                        found = self.check(there, sent_place(where, by_map))
                        asked = mixture(spots, where)
                        self.assertEqual(found[0], asked[0])
                        if asked[0] == "in":
                            self.assertEqual(found, asked)


if __name__ == "__main__":
    unittest.main()

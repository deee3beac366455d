import unittest
from itertools import permutations
from math import gcd

from halvecut.dots import sent, sent_place
from halvecut.errors import PlaneError, TooFew
from halvecut.groups import three_groups, two_groups
from halvecut.mixtures import mixture
from halvecut.places import mixed, place_of
from helpers import FAR, MAPS, copied, painted, spoil, spots_of, spread

# Corners of a convex polygon, in turn; the latter ones lie on a parabola.
CONVEX = [(4, 0), (9, 3), (10, 8), (6, 12), (1, 11), (-2, 7), (-1, 2)]
PARABOLA = [(step, step * step) for step in (3, -7, 0, 5, -2, 8, -4, 1, 6, -6)]


class GroupsTest(unittest.TestCase):
    def check(self, spots, deal, count):
        given = list(spots)
        found = deal(spots)
        self.assertEqual(spots, given)
        self.assertIs(type(found), tuple)
        self.assertEqual(len(found), 2)
        groups, where = found
        self.assertIs(type(where), tuple)
        self.assertEqual([type(number) for number in where], [int, int, int])
        self.assertGreater(where[0], 0)
        self.assertEqual(gcd(*where), 1)
        self.assertIs(type(groups), list)
        self.assertEqual(len(groups), count)
        taken = []
        for group in groups:
            self.check_group(spots, group, where)
            taken += group[0]
        self.assertEqual(len(taken), len(set(taken)))
        kept = copied(found)
        spoil(found)
        self.assertEqual(spots, given)
        self.assertEqual(deal(spots), kept)
        return kept

    def check_group(self, spots, group, where):
        self.assertIs(type(group), tuple)
        numbers, shares = group
        self.assertEqual([type(numbers), type(shares)], [list, list])
        self.assertIn(len(numbers), (1, 2, 3))
        self.assertEqual(numbers, sorted(set(numbers)))
        self.assertGreaterEqual(numbers[0], 0)
        self.assertLess(numbers[-1], len(spots))
        self.assertEqual(len(shares), len(numbers))
        for number in numbers + shares:
            self.assertIs(type(number), int)
        self.assertGreaterEqual(min(shares), 1)
        self.assertEqual(mixed([place_of(spots[number]) for number in numbers], shares), where)

    def two(self, spots):
        return self.check(spots, two_groups, 2)

    def three(self, spots):
        return self.check(spots, three_groups, 3)

    def refuse(self, deal, counts):
        for count in counts:
            for spots in (spread(count, count, 9), [(3, 3)] * count, [(step, 0) for step in range(count)]):
                with self.assertRaises(TooFew) as caught:
                    deal(spots)
                self.assertIsInstance(caught.exception, PlaneError)


class TwoGroupsTest(GroupsTest):
    def test_a_triangle_with_one_inside(self):
        for spots in permutations([(0, 0), (9, 0), (0, 9), (2, 3)]):
            groups, where = self.two(list(spots))
            self.assertEqual(where, (1, 2, 3))
            inside = spots.index((2, 3))
            self.assertEqual(sorted(groups, key=lambda group: len(group[0]))[0], ([inside], [1]))

    def test_a_triangle_with_one_on_its_rim(self):
        for spots in permutations([(0, 0), (9, 0), (0, 9), (3, 0)]):
            self.assertEqual(self.two(list(spots))[1], (1, 3, 0))

    def test_convex_position(self):
        for spots in permutations([(0, 0), (4, 0), (5, 4), (0, 4)]):
            groups, where = self.two(list(spots))
            self.assertEqual(where, (9, 20, 16))
            self.assertEqual([len(group[0]) for group in groups], [2, 2])
        self.assertEqual(self.two([(0, 0), (3, 1), (0, 1), (3, 0)])[1], (2, 3, 1))

    def test_one_line(self):
        for x, y in [(1, 0), (0, 1), (2, 3), (3, -2)]:
            for steps in permutations((0, 1, 3, 7)):
                self.two([(x * step + 5, y * step - 4) for step in steps])
            self.two([(x * step, y * step) for step in range(30)])
            self.two([(x * step, y * step) for step in (4, 4, 0, 9, 0)])

    def test_equal_spots(self):
        for spots in set(permutations([(1, 2), (1, 2), (5, 0), (7, 7)])):
            self.two(list(spots))
        for spots in set(permutations([(1, 2), (1, 2), (5, 0), (5, 0)])):
            self.two(list(spots))
        for spots in set(permutations([(1, 2), (1, 2), (1, 2), (5, 0)])):
            self.assertEqual(self.two(list(spots))[1], (1, 1, 2))
        for count in (4, 5, 30):
            self.assertEqual(self.two([(1, 2)] * count)[1], (1, 1, 2))

    def test_far_out(self):
        self.assertEqual(self.two([(FAR, FAR), (-FAR, FAR), (-FAR, -FAR), (FAR, -FAR)])[1], (1, 0, 0))
        for seed in range(20):
            self.two(spread(seed, 4, FAR))

    def test_strewn_spots(self):
        for seed in range(150):
            self.two(spread(seed, 4 + seed % 3, 1 + seed % 5))
        for seed in range(20):
            self.two(spread(seed, 30, 50))
            self.two(spread(seed, 5, 1000))

    def test_more_than_promised(self):
        self.two(spread(7, 60, 9))

    def test_too_few(self):
        self.refuse(two_groups, range(4))


class ThreeGroupsTest(GroupsTest):
    def test_convex_position(self):
        groups, unused = self.three(list(CONVEX))
        self.assertEqual(sorted(len(group[0]) for group in groups), [2, 2, 3])
        for turned in range(7):
            self.three(CONVEX[turned:] + CONVEX[:turned])
            self.three((CONVEX[turned:] + CONVEX[:turned])[::-1])
            self.three(CONVEX[turned::2] + CONVEX[:turned:2] + CONVEX)
        for first in range(4):
            self.three(PARABOLA[first:first + 7])
        self.three(PARABOLA)

    def test_triangles_about_one_spot(self):
        spots = [(9, 0), (0, 9), (-9, -9), (-8, 1), (1, -8), (7, 8), (0, 0)]
        self.assertEqual(self.three(spots)[1], (1, 0, 0))
        self.assertEqual(self.three(spots[::-1])[1], (1, 0, 0))

    def test_one_line(self):
        for x, y in [(1, 0), (0, 1), (2, 3), (3, -2)]:
            for steps in [range(7), range(6, -1, -1), (3, 9, 1, 0, 4, 30, 7), (0, 0, 0, 1, 1, 5, 6), range(30)]:
                self.three([(x * step + 5, y * step - 4) for step in steps])

    def test_one_line_and_one_beside_it(self):
        for at in range(7):
            spots = [(step, 2 * step) for step in range(6)]
            spots.insert(at, (9, 4))
            self.three(spots)

    def test_equal_spots(self):
        for count in (7, 8, 30):
            self.assertEqual(self.three([(1, 2)] * count)[1], (1, 1, 2))
        self.three([(0, 0)] * 3 + [(5, 1)] * 4)
        self.three([(0, 0), (5, 1)] * 4)
        self.three([(0, 0), (5, 1), (2, 7)] * 3)
        self.three(([(0, 0), (5, 1), (2, 7)] * 3)[:7])
        self.three([(0, 0), (0, 0), (4, 0), (4, 0), (0, 4), (0, 4), (4, 4)])
        self.three([(0, 0)] * 6 + [(4, 4)])
        self.three([(4, 4)] + [(0, 0)] * 6)

    def test_far_out(self):
        self.three([(x * (FAR // 12), y * (FAR // 12) - 1) for x, y in CONVEX])
        for seed in range(15):
            self.three(spread(seed, 7, FAR))

    def test_strewn_spots(self):
        for seed in range(120):
            self.three(spread(seed, 7 + seed % 2, 1 + seed % 5))
        for seed in range(15):
            self.three(spread(seed, 30, 50))
            self.three(spread(seed, 7, 1000))

    def test_more_than_promised(self):
        self.three(spread(7, 60, 9))

    def test_too_few(self):
        self.refuse(three_groups, range(7))


class TogetherTest(GroupsTest):
    def test_place_is_in_the_hull_of_all_spots(self):
        for seed in range(20):
            spots = spread(seed, 7 + seed, 6)
            for deal in (two_groups, three_groups):
                self.assertEqual(mixture(spots, deal(spots)[1])[0], "in")

    def test_one_answer_whatever_came_between(self):
        spots = spread(3, 9, 5)
        before = (two_groups(spots), three_groups(spots))
        for seed in range(5):
            two_groups(spread(seed, 5, 9))
            three_groups(spread(seed, 8, 9))
        self.assertEqual((two_groups(spots), three_groups(spots)), before)
        self.assertIsNot(two_groups(spots)[0], two_groups(spots)[0])

    def test_arguments_bear_their_names(self):
        spots = spread(4, 7, 9)
        self.assertEqual(two_groups(spots=spots), two_groups(spots))
        self.assertEqual(three_groups(spots=spots), three_groups(spots))

    def test_sent_spots(self):
        # The same groups, by the same shares, balance at the place sent by the map.
        for seed in range(6):
            dots = painted(spread(seed, 7 + seed, 4))
            for name, by_map in MAPS.items():
                there = spots_of(sent(dots, by_map))
                with self.subTest(seed=seed, map=name):
                    self.two(there)
                    self.three(there)
                    for deal in (two_groups, three_groups):
                        groups, where = deal(spots_of(dots))
                        for group in groups:
                            self.check_group(there, group, sent_place(where, by_map))


if __name__ == "__main__":
    unittest.main()

import unittest
from fractions import Fraction
from itertools import combinations
from math import gcd

from halvecut.dots import sent, sent_place, total, weighed
from halvecut.errors import NoSuch, PlaneError, TooFew, TooMany
from halvecut.gauges import crossing
from halvecut.hulls import hull
from halvecut.lines import lines_of
from halvecut.middles import deepest, middle, region
from halvecut.places import mixed, place, place_of, rank, swing
from helpers import FAR, HEAVY, MAPS, painted, point, slow_depth, spots_of, strewn, turn


def slow_depths(dots):
    """The depths of all places that may be corners: the spots, and where two lines of dots cross."""
    lines = [row[0] for row in lines_of(dots)]
    places = {place_of(spot) for spot in spots_of(dots)}
    places |= {crossing(one, other) for one, other in combinations(lines, 2)}
    return {where: slow_depth(dots, where) for where in places if where is not None}


def slow_hull(places):
    """Counterclockwise from the least ranked one, by walking to the one that has all others on the left."""
    points = sorted({point(where) for where in places})
    if len(points) < 2:
        return points
    corners = [points[0]]
    while True:
        ahead = next(each for each in points if each != corners[-1])
        for each in points:
            side = turn(corners[-1], ahead, each)
            further = abs(each[0] - corners[-1][0]) + abs(each[1] - corners[-1][1])
            if side < 0 or (side == 0 and further > abs(ahead[0] - corners[-1][0]) + abs(ahead[1] - corners[-1][1])):
                ahead = each
        if ahead == corners[0]:
            return corners
        corners.append(ahead)


def a_little_outside(corners):
    """Places near the region, but not in it."""
    if len(corners) == 1:
        by, x, y = corners[0]
        steps = [(1, 0), (-1, 0), (0, 1), (0, -1), (1, 1), (-3, 2)]
        return [place(by * 1000, x * 1000 + right, y * 1000 + up) for right, up in steps]
    found = []
    inside = mixed(corners[:8], [1] * len(corners[:8]))
    for index, corner in enumerate(corners):
        half = mixed([corners[index - 1], corner], [1, 1])
        for where in [corner] + ([half] if len(corners) > 2 else []):
            x, y = [1001 * out / 1000 - within / 1000 for out, within in zip(point(where), point(inside))]
            found.append(place(x.denominator * y.denominator, x.numerator * y.denominator, y.numerator * x.denominator))
    if len(corners) == 2:
        (x1, y1), (x2, y2) = point(corners[0]), point(corners[1])
        for side in (Fraction(1, 1000), Fraction(-1, 1000)):
            x, y = (x1 + x2) / 2 + (y2 - y1) * side, (y1 + y2) / 2 - (x2 - x1) * side
            found.append(place(x.denominator * y.denominator, x.numerator * y.denominator, y.numerator * x.denominator))
    return found


class RegionTest(unittest.TestCase):
    def check_form(self, corners):
        self.assertIs(type(corners), list)
        for corner in corners:
            self.assertIs(type(corner), tuple)
            self.assertEqual([type(number) for number in corner], [int, int, int])
            self.assertGreater(corner[0], 0)
            self.assertEqual(gcd(*corner), 1)
        self.assertEqual(len(corners), len(set(corners)))
        self.assertTrue(all(rank(corners[0], other) < 0 for other in corners[1:]))
        for index in range(len(corners) if len(corners) > 2 else 0):
            self.assertGreater(swing(corners[index - 2], corners[index - 1], corners[index]), 0)

    def check(self, dots, least):
        given = list(dots)
        corners = region(dots, least)
        self.assertEqual(dots, given)
        self.check_form(corners)
        for corner in corners:
            self.assertGreaterEqual(slow_depth(dots, corner), least)
        for where in a_little_outside(corners) if corners else []:
            self.assertLess(slow_depth(dots, where), least)
        if 3 * least <= total(dots) + 2:
            self.assertNotEqual(corners, [])
        return corners

    def check_all(self, dots):
        depths = slow_depths(dots)
        for least in sorted(set(depths.values()) | {1, total(dots), max(depths.values()) + 1}):
            if 1 <= least <= total(dots):
                with self.subTest(dots=dots, least=least):
                    asked = slow_hull([where for where, found in depths.items() if found >= least])
                    self.assertEqual([point(corner) for corner in self.check(dots, least)], asked)

    def test_polygons(self):
        five = painted([(0, 0), (4, 0), (5, 4), (2, 6), (-1, 4)])
        self.assertEqual(region(five, 1), [(1, -1, 4), (1, 0, 0), (1, 4, 0), (1, 5, 4), (1, 2, 6)])
        self.assertEqual(len(region(five, 2)), 5)
        self.assertEqual(region(five, 3), [])
        self.check_all(five)

    def test_a_triangle(self):
        dots = painted([(0, 0), (6, 0), (0, 6)])
        self.assertEqual(region(dots, 1), [(1, 0, 0), (1, 6, 0), (1, 0, 6)])
        self.assertEqual(region(dots, 2), [])
        self.assertEqual(region(dots, 3), [])

    def test_a_segment(self):
        # Each of two heavy dots is deep by itself, and so is all that lies between.
        heavy = [(0, 0, 0, 5), (6, 2, 1, 5), (3, 9, 2, 1), (3, -9, 0, 1)]
        self.assertEqual(self.check(heavy, 5), [(1, 0, 0), (1, 6, 2)])
        self.check_all(heavy)

    def test_a_single_place(self):
        square = painted([(0, 0), (4, 0), (4, 4), (0, 4)])
        self.assertEqual(region(square, 2), [(1, 2, 2)])
        self.assertEqual(region(square, 3), [])
        self.assertEqual(self.check(painted([(0, 0), (6, 0), (6, 6), (0, 6), (2, 3), (4, 3)]), 3), [(1, 3, 3)])
        crossed = painted([(0, 0), (3, 1), (0, 1), (3, 0)])
        self.assertEqual(region(crossed, 2), [(2, 3, 1)])
        heavy = [(0, 0, 0, 1), (3, 1, 0, 1), (5, 5, 0, 9)]
        self.assertEqual(region(heavy, 2), [(1, 5, 5)])
        self.assertEqual(region(heavy, 9), [(1, 5, 5)])
        self.assertEqual(region(heavy, 10), [])
        self.assertEqual(region(heavy, 11), [])

    def test_one_spot(self):
        self.assertEqual(region([(3, -4, 0, 1)], 1), [(1, 3, -4)])
        dots = [(3, -4, 0, 5), (3, -4, 1, 6), (3, -4, 2, 7)]
        for least in (1, 6, 9, 17, 18):
            self.assertEqual(region(dots, least), [(1, 3, -4)])
        self.assertEqual(region(painted([(FAR, -FAR)] * 30, 0, HEAVY), 30 * HEAVY), [(1, FAR, -FAR)])

    def test_dots_on_one_line(self):
        for x, y in [(1, 0), (0, 1), (2, 3), (3, -2)]:
            dots = painted([(x * step, y * step) for step in (4, 0, 1, 3, 2)])
            ends = [sorted([(1, 0, 0), (1, 4 * x, 4 * y)]), sorted([(1, x, y), (1, 3 * x, 3 * y)])]
            self.assertEqual(region(dots, 1), ends[0])
            self.assertEqual(region(dots, 2), ends[1])
            self.assertEqual(region(dots, 3), [(1, 2 * x, 2 * y)])
            self.assertEqual(region(dots, 4), [])
            self.assertEqual(region(dots, 5), [])
            self.check_all(dots)
            # Not through the origin, and of unlike weights.
            self.check_all([(a + 7, b - 5, colour, weight + a * a + b * b) for a, b, colour, weight in dots])

    def test_two_dots(self):
        dots = [(5, 5, 0, 3), (1, 2, 0, 4)]
        self.assertEqual(region(dots, 3), [(1, 1, 2), (1, 5, 5)])
        self.assertEqual(region(dots, 4), [(1, 1, 2)])
        self.assertEqual(region(dots, 5), [])

    def test_first_depth_is_the_hull(self):
        for seed in range(10):
            dots = strewn(seed, 1 + 3 * seed, 5, 4)
            self.assertEqual(self.check(dots, 1), hull(spots_of(dots)))

    def test_all_weight(self):
        for seed in range(10):
            dots = strewn(seed, 2 + seed, 5, 4)
            if len(set(spots_of(dots))) > 1:
                self.assertEqual(region(dots, total(dots)), [])

    def test_strewn_dots(self):
        for seed in range(20):
            self.check_all(strewn(seed, 1 + seed % 6, 2, 1 + seed % 3))
            self.check_all(strewn(seed, 3 + seed % 4, 9, 1))
        for seed in range(5):
            self.check_all(strewn(seed, 6, 50, HEAVY))

    def test_many_dots(self):
        for seed, count, reach, heaviest in [(31, 16, FAR, HEAVY), (32, 16, FAR, 1), (33, 13, 3, 5), (34, 30, 900, 7)]:
            dots = strewn(seed, count, reach, heaviest)
            whole = total(dots)
            for least in {1, whole // 9 + 1, whole // 5 + 1, whole // 4 + 1, (whole + 2) // 3, 2 * whole // 5, whole // 2}:
                with self.subTest(seed=seed, least=least):
                    self.check(dots, least)

    def test_a_third_is_never_too_deep(self):
        for seed in range(60):
            dots = strewn(seed, 1 + seed % 12, 1 + seed % 4, 1 + seed % 5)
            self.assertNotEqual(self.check(dots, (total(dots) + 2) // 3), [])

    def test_no_such_depth(self):
        dots = strewn(35, 5, 9, 9)
        for least in (0, -1, -10 ** 59, total(dots) + 1, 10 ** 59):
            with self.assertRaises(NoSuch) as caught:
                region(dots, least)
            self.assertIsInstance(caught.exception, PlaneError)
        for least in (-1, 0, 1, 2):
            with self.assertRaises(NoSuch):
                region([], least)

    def test_what_came_back_is_the_callers_own(self):
        dots = strewn(36, 8, 9, 2)
        given = list(dots)
        for least in (1, 2, 3, total(dots)):
            first = region(dots, least)
            kept = list(first)
            first.append("more")
            first[0] = "other"
            region(dots[:4], 1)
            self.assertEqual(region(dots, least), kept)
            self.assertIsNot(region(dots, least), region(dots, least))
        self.assertEqual(dots, given)

    def test_corners_move_along(self):
        for seed in range(5):
            dots = strewn(70 + seed, 4 + 2 * seed, 5, 1 + seed)
            for least in {1, (total(dots) + 5) // 6, (total(dots) + 2) // 3, total(dots) // 2}:
                corners = region(dots, least)
                for name, by_map in MAPS.items():
                    with self.subTest(seed=seed, least=least, map=name):
                        there = self.check(sent(dots, by_map), least)
                        self.assertEqual(sorted(there), sorted(sent_place(corner, by_map) for corner in corners))


class MiddleTest(unittest.TestCase):
    def test_ordinary(self):
        self.assertEqual(middle([(3, -4, 0, 7)]), (1, 3, -4))
        self.assertEqual(middle([(3, -4, 0, 1), (1, 9, 0, 1)]), (1, 1, 9))
        self.assertEqual(middle([(3, -4, 0, 5), (1, 9, 0, 1)]), (1, 3, -4))
        self.assertEqual(middle(painted([(0, 0), (6, 0), (0, 6)])), (1, 0, 0))
        self.assertEqual(middle(painted([(0, 0), (4, 0), (4, 4), (0, 4)])), (1, 2, 2))
        self.assertEqual(middle(painted([(0, 0), (3, 1), (0, 1), (3, 0)])), (2, 3, 1))

    def test_dots_on_one_line(self):
        self.assertEqual(middle(painted([(2 * step, 3 * step) for step in range(7)])), (1, 4, 6))
        self.assertEqual(middle(painted([(5, -step) for step in range(6)])), (1, 5, -4))
        self.assertEqual(middle([(0, 2, 0, 3), (9, 2, 0, 1), (4, 2, 0, 5)]), (1, 0, 2))

    def test_first_corner_of_the_region(self):
        cases = [strewn(seed, 1 + seed % 11, 3, 1 + seed % 4) for seed in range(30)]
        cases += [strewn(80, 20, 50, 1), strewn(81, 20, FAR, HEAVY), strewn(82, 30, 5, 3), painted([(1, 1)] * 30)]
        for dots in cases:
            given = list(dots)
            found = middle(dots)
            self.assertIs(type(found), tuple)
            least = (total(dots) + 2) // 3
            self.assertEqual(found, region(dots, least)[0])
            self.assertGreaterEqual(3 * slow_depth(dots, found), total(dots))
            self.assertEqual(middle(dots), found)
            self.assertEqual(dots, given)

    def test_against_all_places_that_may_be_corners(self):
        for seed in range(15):
            dots = strewn(seed, 2 + seed % 5, 4, 1 + seed % 3)
            least = (total(dots) + 2) // 3
            asked = min(point(where) for where, found in slow_depths(dots).items() if found >= least)
            self.assertEqual(point(middle(dots)), asked)

    def test_no_dots(self):
        with self.assertRaises(TooFew):
            middle([])


class DeepestTest(unittest.TestCase):
    def check(self, dots):
        given = list(dots)
        found = deepest(dots)
        self.assertEqual(dots, given)
        self.assertIs(type(found), tuple)
        deep, where, bars = found
        self.assertIs(type(deep), int)
        self.assertEqual(slow_depth(dots, where), deep)
        self.assertEqual(where, region(dots, deep)[0])
        self.assertGreaterEqual(3 * deep, total(dots))
        self.check_bars(dots, deep, bars)
        kept = list(bars)
        bars.clear()
        deepest([(0, 0, 0, 1)])[2].append("other")
        self.assertEqual(deepest(dots), (deep, where, kept))
        return (deep, where)

    def check_bars(self, dots, deep, bars):
        self.assertIs(type(bars), list)
        self.assertIn(len(bars), (2, 3))
        sums = [0, 0, 0]
        for bar in bars:
            self.assertIs(type(bar), tuple)
            gauge, share = bar
            self.assertIs(type(gauge), tuple)
            self.assertEqual([type(number) for number in gauge], [int, int, int])
            self.assertNotEqual(gauge[1:], (0, 0))
            self.assertIs(type(share), int)
            self.assertGreaterEqual(share, 1)
            split = weighed(dots, gauge)
            self.assertGreaterEqual(split[1] + split[2], total(dots) - deep)
            sums = [entry + share * number for entry, number in zip(sums, gauge)]
        self.assertEqual(sums[1:], [0, 0])
        self.assertLess(sums[0], 0)

    def test_one_dot(self):
        self.assertEqual(self.check([(3, -4, 0, 1)]), (1, (1, 3, -4)))
        self.assertEqual(self.check([(FAR, -FAR, 0, HEAVY)]), (HEAVY, (1, FAR, -FAR)))

    def test_all_on_one_spot(self):
        self.assertEqual(self.check([(3, -4, 0, 5), (3, -4, 1, 6)]), (11, (1, 3, -4)))
        self.assertEqual(self.check(painted([(0, 0)] * 12)), (12, (1, 0, 0)))

    def test_two_dots(self):
        self.assertEqual(self.check([(5, 5, 0, 3), (1, 2, 0, 3)]), (3, (1, 1, 2)))
        self.assertEqual(self.check([(5, 5, 0, 4), (1, 2, 0, 3)]), (4, (1, 5, 5)))

    def test_three_corners(self):
        self.assertEqual(self.check(painted([(0, 0), (6, 0), (0, 6)])), (1, (1, 0, 0)))
        self.assertEqual(self.check([(0, 0, 0, 2), (6, 0, 0, 3), (0, 6, 0, 2)]), (3, (1, 6, 0)))
        self.assertEqual(self.check([(0, 0, 0, 2), (6, 0, 0, 2), (0, 6, 0, 1)]), (2, (1, 0, 0)))
        self.assertEqual(self.check(painted([(0, 0), (6, 0), (0, 6)] * 4)), (4, (1, 0, 0)))

    def test_four_corners(self):
        self.assertEqual(self.check(painted([(0, 0), (4, 0), (4, 4), (0, 4)])), (2, (1, 2, 2)))
        self.assertEqual(self.check(painted([(0, 0), (3, 1), (0, 1), (3, 0)])), (2, (2, 3, 1)))
        self.assertEqual(self.check(painted([(0, 0), (9, 0), (0, 9), (1, 1)])), (2, (1, 1, 1)))

    def test_dots_on_one_line(self):
        for x, y in [(1, 0), (0, 1), (2, 3)]:
            for count in range(2, 13):
                dots = painted([(x * step, y * step) for step in range(count)])
                at = (count - 1) // 2
                self.assertEqual(self.check(dots), ((count + 1) // 2, (1, x * at, y * at)))
            self.check([(x * step + 7, y * step - 5, 0, step * step + 1) for step in range(9)])

    def test_against_all_places_that_may_be_corners(self):
        for seed in range(30):
            dots = strewn(seed, 1 + seed % 7, 2 + seed % 6, 1 + seed % 4)
            depths = slow_depths(dots)
            most = max(depths.values())
            asked = min(point(where) for where, found in depths.items() if found == most)
            deep, where = self.check(dots)
            self.assertEqual((deep, point(where)), (most, asked))

    def test_one_to_twelve_dots(self):
        for count in range(1, 13):
            self.check(strewn(count, count, 9, 1))
            self.check(strewn(100 + count, count, 3, 6))
            self.check(strewn(200 + count, count, FAR, HEAVY))
            self.check(strewn(300 + count, count, FAR, 1))

    def test_too_few_and_too_many(self):
        with self.assertRaises(TooFew):
            deepest([])
        for count in (13, 30):
            for dots in (strewn(1, count, 9), painted([(0, 0)] * count)):
                with self.assertRaises(TooMany) as caught:
                    deepest(dots)
                self.assertIsInstance(caught.exception, PlaneError)

    def test_sent_dots(self):
        for seed in range(6):
            dots = strewn(90 + seed, 3 + seed, 5, 1 + seed)
            deep = deepest(dots)[0]
            for name, by_map in MAPS.items():
                with self.subTest(seed=seed, map=name):
                    self.assertEqual(self.check(sent(dots, by_map))[0], deep)


if __name__ == "__main__":
    unittest.main()

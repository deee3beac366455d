import unittest
from itertools import permutations

from halvecut.dots import sent_place
from halvecut.gauges import side
from halvecut.hulls import bounds, hull
from halvecut.mixtures import mixture
from halvecut.places import place_of, rank, swing
from helpers import FAR, MAPS, spread, turn


def slow_corners(spots):
    """Those that some straight edge touches alone: no other two spots, or three, have them between or inside."""
    places = sorted(set(spots))
    if len(places) < 3 or all(turn(places[0], places[1], each) == 0 for each in places):
        return {places[0], places[-1]} if places else set()
    edges = [
        (one, other)
        for one in places
        for other in places
        if one != other and all(turn(one, other, each) >= 0 for each in places)
    ]
    corners = set()
    for one, other in edges:
        ends = sorted(each for each in places if turn(one, other, each) == 0)
        corners |= {ends[0], ends[-1]}
    return corners


class HullTest(unittest.TestCase):
    def check(self, spots):
        given = list(spots)
        found = hull(spots)
        self.assertEqual(spots, given)
        self.assertIs(type(found), list)
        for corner in found:
            self.assertIs(type(corner), tuple)
            self.assertEqual(corner[0], 1)
        self.assertEqual({corner[1:] for corner in found}, slow_corners(given))
        self.assertEqual(len(found), len(set(found)))
        self.assertTrue(all(rank(found[0], other) < 0 for other in found[1:]))
        for index in range(len(found) if len(found) > 2 else 0):
            for spot in spots:
                self.assertGreaterEqual(swing(found[index - 1], found[index], place_of(spot)), 0)
            self.assertGreater(swing(found[index - 2], found[index - 1], found[index]), 0)

    def test_no_spots(self):
        self.assertEqual(hull([]), [])

    def test_one_spot(self):
        self.assertEqual(hull([(3, -4)]), [(1, 3, -4)])
        self.assertEqual(hull([(3, -4), (3, -4)]), [(1, 3, -4)])
        self.assertEqual(hull([(FAR, -FAR)] * 30), [(1, FAR, -FAR)])

    def test_two_spots(self):
        self.assertEqual(hull([(5, 1), (-2, 7)]), [(1, -2, 7), (1, 5, 1)])
        self.assertEqual(hull([(4, 7), (4, -2), (4, 7)]), [(1, 4, -2), (1, 4, 7)])

    def test_spots_on_one_line(self):
        self.assertEqual(hull([(4, 6), (0, 0), (2, 3), (6, 9), (2, 3)]), [(1, 0, 0), (1, 6, 9)])
        self.assertEqual(hull([(0, 9), (3, 3), (1, 7)]), [(1, 0, 9), (1, 3, 3)])
        self.assertEqual(hull([(5, 2), (-1, 2), (3, 2)]), [(1, -1, 2), (1, 5, 2)])
        self.assertEqual(hull([(5, 2), (5, -7), (5, 0)]), [(1, 5, -7), (1, 5, 2)])
        self.assertEqual(hull([(number * 3, -number) for number in range(30)]), [(1, 0, 0), (1, 87, -29)])

    def test_counterclockwise_from_the_least_ranked(self):
        square = [(1, 0, 0), (1, 2, 0), (1, 2, 2), (1, 0, 2)]
        for spots in permutations([(0, 0), (2, 0), (2, 2), (0, 2)]):
            self.assertEqual(hull(list(spots)), square)
        for spots in permutations([(0, 0), (5, 1), (1, 4)]):
            self.assertEqual(hull(list(spots)), [(1, 0, 0), (1, 5, 1), (1, 1, 4)])
        self.assertEqual(hull([(0, 3), (0, -3), (1, 0), (-1, 0)]), [(1, -1, 0), (1, 0, -3), (1, 1, 0), (1, 0, 3)])

    def test_lowest_of_the_leftmost_comes_first(self):
        self.assertEqual(hull([(0, 5), (0, 1), (4, -9), (0, 3)]), [(1, 0, 1), (1, 4, -9), (1, 0, 5)])

    def test_spots_on_the_rim_are_left_out(self):
        grid = [(x, y) for x in range(5) for y in range(5)]
        self.assertEqual(hull(grid), [(1, 0, 0), (1, 4, 0), (1, 4, 4), (1, 0, 4)])
        aslant = [(0, 0), (3, 1), (6, 2), (5, 4), (4, 6), (2, 3)]
        self.assertEqual(hull(aslant), [(1, 0, 0), (1, 6, 2), (1, 4, 6)])

    def test_equal_spots(self):
        spots = [(0, 0), (4, 0), (0, 4)]
        self.assertEqual(hull(spots * 5 + [(1, 1)] * 3), hull(spots))

    def test_strewn_spots(self):
        for seed in range(40):
            with self.subTest(seed=seed):
                self.check(spread(seed, seed % 9, 2))
                self.check(spread(seed, 3 + seed % 7, 10))

    def test_thirty_spots(self):
        self.check(spread(71, 30, 3))
        self.check(spread(72, 30, 1000))
        bowl = [(number, number * number) for number in range(30)]
        self.assertEqual(len(hull(bowl)), 30)
        self.check(bowl[::-1])

    def test_twelve_digits(self):
        self.check(spread(73, 30, FAR))
        self.check([(-FAR, -FAR), (FAR, FAR), (0, 0), (FAR, FAR - 1), (-FAR, 1 - FAR)])
        thin = [(-FAR, -FAR), (FAR, FAR - 1), (0, 0)]
        self.assertEqual(hull(thin), [(1, -FAR, -FAR), (1, FAR, FAR - 1), (1, 0, 0)])

    def test_what_came_back_is_the_callers_own(self):
        for spots in ([], [(1, 1)], [(1, 1), (4, 5)], spread(74, 9, 9)):
            given = list(spots)
            first = hull(spots)
            kept = list(first)
            first.append("more")
            first[0] = "other"
            hull([(8, 8)])
            self.assertEqual(hull(spots), kept)
            self.assertEqual(spots, given)
            self.assertIsNot(hull(spots), hull(spots))

    def test_corners_move_along(self):
        for seed in range(6):
            spots = spread(80 + seed, 4 + seed, 6)
            for name, by_map in MAPS.items():
                with self.subTest(seed=seed, map=name):
                    there = [sent_place(place_of(spot), by_map)[1:] for spot in spots]
                    self.assertEqual(
                        sorted(hull(there)), sorted(sent_place(corner, by_map) for corner in hull(spots))
                    )


class BoundsTest(unittest.TestCase):
    def test_over_or_on_all_of_them_is_in_the_hull(self):
        for spots in [[(1, 1)], [(0, 0), (2, 4)], [(3, 0), (-1, 0)], [(2, 3), (2, -1)], spread(75, 5, 3)]:
            found = bounds(hull(spots))
            for x in range(-8, 9):
                for y in range(-8, 9):
                    where = (2, x, y) if x % 2 or y % 2 else (1, x // 2, y // 2)
                    inside = all(side(gauge, where) >= 0 for gauge in found)
                    self.assertEqual(inside, mixture(spots, where)[0] == "in")
            self.assertTrue(all(gauge[1:] != (0, 0) for gauge in found))


if __name__ == "__main__":
    unittest.main()

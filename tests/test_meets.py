import unittest
from itertools import combinations
from math import gcd

from halvecut.gauges import side
from halvecut.meets import hulls_meet
from halvecut.mixtures import mixture
from halvecut.places import mixed, place_of
from helpers import FAR, MAPS, copied, spoil, spread


class MeetsTest(unittest.TestCase):
    def check(self, lists):
        given = copied(lists)
        found = hulls_meet(lists)
        self.assertEqual(lists, given)
        self.assertIs(type(found), tuple)
        if found[0] == "meet":
            self.check_meet(lists, found)
        else:
            self.check_bar(lists, found)
        kept = copied(found)
        spoil(found)
        self.assertEqual(lists, given)
        self.assertEqual(hulls_meet(lists), kept)
        return kept

    def check_meet(self, lists, found):
        self.assertEqual(len(found), 3)
        where, parts = found[1:]
        self.assertIs(type(where), tuple)
        self.assertEqual([type(number) for number in where], [int, int, int])
        self.assertGreater(where[0], 0)
        self.assertEqual(gcd(*where), 1)
        self.assertIs(type(parts), list)
        self.assertEqual(len(parts), len(lists))
        for spots, part in zip(lists, parts):
            self.assertIs(type(part), tuple)
            numbers, shares = part
            self.assertEqual([type(numbers), type(shares)], [list, list])
            self.assertEqual(mixture(spots, where), ("in", numbers, shares))
            self.assertEqual(mixed([place_of(spots[number]) for number in numbers], shares), where)

    def check_bar(self, lists, found):
        self.assertEqual(found[0], "bar")
        self.assertEqual(len(found), 2)
        rows = found[1]
        self.assertIs(type(rows), list)
        self.assertIn(len(rows), (2, 3))
        indexes = [row[0] for row in rows]
        self.assertEqual(indexes, sorted(set(indexes)))
        for row in rows:
            self.assertIs(type(row), tuple)
            index, gauge = row
            self.assertIs(type(index), int)
            self.assertIs(type(gauge), tuple)
            self.assertEqual([type(number) for number in gauge], [int, int, int])
            self.assertGreaterEqual(index, 0)
            self.assertTrue(all(side(gauge, place_of(spot)) >= 0 for spot in lists[index]))
        sums = [sum(row[1][entry] for row in rows) for entry in range(3)]
        self.assertEqual(sums[1:], [0, 0])
        self.assertLess(sums[0], 0)

    def meet_at(self, lists, where):
        found = self.check(lists)
        self.assertEqual(found[:2], ("meet", where))
        for order in (lists[::-1], lists[1:] + lists[:1]):
            self.assertEqual(self.check(order)[:2], ("meet", where))

    def meet(self, lists):
        for order in (lists, lists[::-1], lists[1:] + lists[:1]):
            self.assertEqual(self.check(order)[0], "meet")

    def apart(self, lists):
        for order in (lists, lists[::-1], lists[1:] + lists[:1]):
            self.assertEqual(self.check(order)[0], "bar")

    def test_one_list(self):
        self.assertEqual(hulls_meet([[(3, 4)]]), ("meet", (1, 3, 4), [([0], [1])]))
        self.assertEqual(hulls_meet([[(3, 4), (3, 4)]]), ("meet", (1, 3, 4), [([0], [1])]))
        self.meet([[(0, 0), (4, 6)]])
        self.meet([[(0, 0), (4, 0), (0, 4), (1, 1)]])
        self.meet([spread(1, 8, 9)])

    def test_one_spot_each(self):
        self.meet_at([[(3, 4)], [(3, 4)]], (1, 3, 4))
        self.meet_at([[(3, 4), (3, 4)], [(3, 4)], [(3, 4)] * 8], (1, 3, 4))
        for other in [(3, 5), (2, 4), (4, 4), (3, 3), (9, -9)]:
            self.apart([[(3, 4)], [other]])
            self.apart([[(3, 4), (3, 4)], [other, other, other]])
            self.apart([[(3, 4)], [(3, 4)], [other]])

    def test_a_spot_and_a_hull(self):
        corners = [(0, 0), (6, 0), (0, 6), (2, 2)]
        for spot in [(1, 1), (2, 2), (0, 0), (3, 3), (0, 5)]:
            self.meet_at([corners, [spot]], (1, spot[0], spot[1]))
        for spot in [(4, 3), (-1, 2), (2, -1), (7, 0), (-1, -1)]:
            self.apart([corners, [spot]])

    def test_spots_on_one_line(self):
        for x, y in [(1, 0), (0, 1), (3, 2)]:
            def row(steps):
                return [(x * step, y * step) for step in steps]
            self.meet([row([0, 4, 2]), row([3, 9])])
            self.meet_at([row([0, 4, 2]), row([9, 4, 7])], (1, 4 * x, 4 * y))
            self.apart([row([0, 3]), row([4, 9, 6])])
            self.apart([row([0, 3]), [(x * step - y, y * step + x) for step in (0, 3)]])
            self.meet_at([row([-2, 4]), [(-y, x), (3 * y, -3 * x)]], (1, 0, 0))
            self.apart([row([1, 4]), [(-y, x), (3 * y, -3 * x)]])
            self.apart([row([0, 4]), row([3, 9]), row([5, 9])])

    def test_just_one_place_in_common(self):
        # A corner of both, a place on a rim, a corner on a rim, a place that is no spot.
        self.meet_at([[(0, 0), (4, 0), (0, 4)], [(4, 0), (8, 1), (7, 5)]], (1, 4, 0))
        self.meet_at([[(0, 0), (4, 0), (0, 4)], [(2, 0), (3, -5), (-1, -5)]], (1, 2, 0))
        self.meet_at([[(0, 0), (4, 0), (0, 4)], [(1, 0)], [(0, -1), (2, 1)]], (1, 1, 0))
        self.meet_at([[(0, 0), (3, 1)], [(0, 1), (3, 0)]], (2, 3, 1))
        self.meet_at([[(0, 0), (5, 1)], [(0, 3), (1, -4)], [(0, 0), (5, 1), (9, 9)]], (12, 5, 1))
        # Three triangles about one place, of which each two overlap more widely.
        self.meet_at([[(-6, 0), (6, 0), (0, 9)], [(0, 0), (-6, -6), (6, -6)]], (1, 0, 0))
        self.meet_at(
            [[(-9, 0), (9, 0), (0, 9)], [(9, -9), (-9, 9), (-9, -9)], [(-9, -9), (9, 9), (9, -9)]], (1, 0, 0)
        )

    def test_wide_overlaps(self):
        self.meet([[(0, 0), (9, 0), (9, 9), (0, 9)], [(1, 1), (8, 2), (5, 20)], [(-5, 3), (30, 4), (4, -7)]])
        self.meet([[(-9 - step, -9), (9, -9 - step), (9 + step, 9), (-9, 9 + step)] for step in range(8)])

    def test_one_within_the_other(self):
        self.meet([[(0, 0), (90, 0), (0, 90)], [(5, 5), (6, 5), (5, 6)]])
        self.meet([[(5, 5), (6, 5), (5, 6)], [(0, 0), (90, 0), (0, 90)], [(5, 5), (7, 9)]])

    def test_two_apart(self):
        self.apart([[(0, 0), (4, 0), (0, 4)], [(3, 3), (9, 9), (3, 9)]])
        self.apart([[(0, 0), (4, 0), (0, 4)], [(3, 2), (9, 9), (3, 9)]])
        self.apart([[(0, 0), (4, 0), (0, 4)], [(5, 0), (9, 0)]])
        self.apart([[(0, 0), (4, 0), (0, 4)], [(0, 5), (9, -5)]])

    def test_three_apart_of_which_each_two_meet(self):
        lists = [[(0, 0), (9, 0)], [(9, 0), (0, 9)], [(0, 9), (0, 0)]]
        self.check_three(lists)
        self.check_three([[(0, 0), (9, 0), (4, 1)], [(9, 0), (0, 9), (9, 9)], [(0, 9), (0, 0), (-5, 4)]])
        self.check_three([[(-1, 0), (10, 0)], [(10, -1), (-1, 10)], [(0, 10), (0, -1)], [(0, 0), (9, 0), (0, 9)]])

    def check_three(self, lists):
        for pair in combinations(lists[:3], 2):
            self.meet(list(pair))
        self.apart(lists[:3])
        self.apart(lists)
        self.assertEqual(len(self.check(lists[:3])[1]), 3)

    def test_equal_lists(self):
        for spots in ([(1, 2)], [(1, 2), (5, 4)], spread(2, 8, 9)):
            self.meet([spots] * 2)
            self.meet([spots] * 8)
        found = self.check([[(0, 0), (4, 0), (0, 4)]] * 3)
        self.assertEqual(found[2][0], found[2][2])

    def test_strewn_lists(self):
        words = {}
        for seed in range(120):
            count = 2 + seed % 7
            lists = [spread(seed * 10 + number, 1 + (seed + 3 * number) % 8, 3 + seed % 5) for number in range(count)]
            word = self.check(lists)[0]
            words[word] = words.get(word, 0) + 1
        self.assertGreater(min(words["meet"], words["bar"]), 10)

    def test_small_coordinates(self):
        # Spots of so few kinds often coincide and lie on one line.
        for seed in range(150):
            self.check([spread(seed * 7 + number, 1 + (seed + number) % 3, 2) for number in range(2 + seed % 3)])

    def test_eight_lists_of_eight(self):
        for seed in range(6):
            self.check([spread(900 + seed * 10 + number, 8, 20) for number in range(8)])
        ring = [(10, 0), (7, 7), (0, 10), (-7, 7), (-10, 0), (-7, -7), (0, -10), (7, -7)]
        for step in (1, 2, 3, 4, 6):
            rings = [[(x + x0 * step, y + y0 * step) for x, y in ring] for x0, y0 in
                     [(1, 0), (0, 1), (-1, 0), (0, -1), (1, 1), (-1, 1), (-1, -1), (1, -1)]]
            self.check(rings)

    def test_twelve_digits(self):
        for seed in range(10):
            self.check([spread(700 + seed * 10 + number, 1 + (seed + number) % 8, FAR) for number in range(2 + seed % 7)])
        self.meet_at([[(-FAR, -FAR), (FAR, FAR)], [(-FAR, FAR), (FAR, -FAR)]], (1, 0, 0))
        self.meet([[(-FAR, -FAR), (FAR, FAR - 1)], [(-FAR, FAR), (FAR, -FAR)]])
        self.apart([[(-FAR, -FAR), (FAR, FAR - 1)], [(0, 0)]])
        self.apart([[(-FAR, -FAR), (FAR, FAR - 1)], [(-FAR, 1 - FAR), (FAR, FAR)]])
        self.check_three([[(-FAR, -FAR), (FAR, -FAR)], [(FAR, -FAR), (0, 1 - FAR)], [(0, 1 - FAR), (-FAR, -FAR)]])

    def test_sent_lists(self):
        for seed in range(8):
            lists = [spread(500 + seed * 10 + number, 2 + number % 4, 4) for number in range(3)]
            word = self.check(lists)[0]
            for name, (a, b, c, d, e, f) in MAPS.items():
                with self.subTest(seed=seed, map=name):
                    there = [[(a * x + b * y + e, c * x + d * y + f) for x, y in spots] for spots in lists]
                    self.assertEqual(self.check(there)[0], word)


if __name__ == "__main__":
    unittest.main()

import unittest
from math import gcd

from halvecut.depths import depth, lightest
from halvecut.dots import sent, sent_place, weighed
from halvecut.gauges import side
from halvecut.places import mixed, place, place_of
from helpers import FAR, HEAVY, MAPS, painted, slow_depth, strewn

BIG = 10 ** 39 + 7


class DepthTest(unittest.TestCase):
    def check(self, dots, where):
        given = list(dots)
        found = depth(dots, where)
        self.assertIs(type(found), int)
        self.assertEqual(found, slow_depth(given, where))
        gauge = lightest(dots, where)
        self.assertEqual(dots, given)
        self.assertIs(type(gauge), tuple)
        self.assertEqual([type(number) for number in gauge], [int, int, int])
        self.assertNotEqual(gauge[1:], (0, 0))
        self.assertEqual(side(gauge, where), 0)
        split = weighed(dots, gauge)
        self.assertEqual(split[1] + split[2], found)
        return found

    def test_no_dots(self):
        for where in [(1, 0, 0), (3, 1, -2), (BIG, 1, BIG - 1)]:
            self.assertEqual(self.check([], where), 0)

    def test_one_dot(self):
        dots = [(3, 4, 1, 7)]
        self.assertEqual(self.check(dots, (1, 3, 4)), 7)
        for where in [(1, 3, 5), (1, 2, 4), (2, 7, 8), (1, 0, 0), (BIG, 1, 1)]:
            self.assertEqual(self.check(dots, where), 0)

    def test_all_dots_at_the_place(self):
        dots = [(3, 4, 1, 7), (3, 4, 0, 1), (3, 4, 1, 90)]
        self.assertEqual(self.check(dots, (1, 3, 4)), 98)
        self.assertEqual(self.check(dots, (1, 4, 3)), 0)

    def test_between_two(self):
        dots = [(0, 0, 0, 2), (4, 2, 0, 5)]
        self.assertEqual(self.check(dots, (1, 2, 1)), 2)
        self.assertEqual(self.check(dots, (2, 1, 1)), 0)
        self.assertEqual(self.check(dots, (1, 0, 0)), 2)
        self.assertEqual(self.check(dots, (1, 4, 2)), 5)
        self.assertEqual(self.check(dots, (1, 6, 3)), 0)
        self.assertEqual(self.check(dots, (4, 2, 1)), 2)

    def test_amid_many(self):
        square = painted([(0, 0), (4, 0), (4, 4), (0, 4)])
        self.assertEqual(self.check(square, (1, 2, 2)), 2)
        self.assertEqual(self.check(square, (1, 2, 1)), 1)
        self.assertEqual(self.check(square, (1, 2, 0)), 1)
        self.assertEqual(self.check(square, (1, 0, 0)), 1)
        self.assertEqual(self.check(square, (1, 2, -1)), 0)
        self.assertEqual(self.check(square + [(2, 2, 0, 9)], (1, 2, 2)), 11)
        five = painted([(0, 0), (4, 0), (5, 4), (2, 6), (-1, 4)])
        self.assertEqual(self.check(five, (1, 2, 3)), 2)

    def test_unlike_weights(self):
        dots = [(0, 0, 0, 5), (6, 0, 1, 3), (0, 6, 2, 4)]
        self.assertEqual(self.check(dots, (1, 2, 2)), 3)
        self.assertEqual(self.check(dots, (1, 0, 3)), 4)
        self.assertEqual(self.check(dots, (1, 0, 0)), 5)
        self.assertEqual(self.check(dots, (1, 3, 3)), 3)

    def test_dots_on_one_line(self):
        for x, y in [(1, 0), (0, 1), (2, 3)]:
            dots = [(x * step, y * step, step % 3, step + 1) for step in range(6)]
            self.assertEqual(self.check(dots, (1, 2 * x, 2 * y)), 6)
            self.assertEqual(self.check(dots, (1, 4 * x, 4 * y)), 11)
            self.assertEqual(self.check(dots, place(2, 7 * x, 7 * y)), 10)
            self.assertEqual(self.check(dots, (1, 7 * x, 7 * y)), 0)
            self.assertEqual(self.check(dots, (1, 2 * x - y, 2 * y + x)), 0)
            # Through the place, but not at it.
            self.assertEqual(self.check(dots, (1, -3 * x, -3 * y)), 0)

    def test_several_dots_on_one_spot(self):
        dots = painted([(0, 0)] * 4 + [(3, 0)] * 2 + [(0, 3)] * 5)
        self.assertEqual(self.check(dots, (1, 1, 1)), 2)
        self.assertEqual(self.check(dots, (1, 0, 1)), 4)
        self.assertEqual(self.check(dots, (1, 0, 3)), 5)

    def test_far_off(self):
        dots = strewn(1, 12, 9, 5)
        for where in [(1, BIG, 0), (1, -BIG, BIG), (BIG, BIG * 9 - 1, 1), (1, 0, -BIG), (7, BIG, 3)]:
            self.assertEqual(gcd(*where), 1)
            self.check(dots, where)
        self.assertEqual(self.check(dots, (1, BIG, 5)), 0)

    def test_close_by(self):
        dots = painted([(0, 0), (4, 0), (0, 4), (1, 1)])
        for where in [(BIG, 1, 1), (BIG, BIG + 1, BIG), (BIG, BIG - 1, BIG), (BIG, 2 * BIG, 2 * BIG - 1), (BIG, -1, 0)]:
            self.check(dots, where)

    def test_strewn_dots(self):
        for seed in range(25):
            dots = strewn(seed, 1 + seed % 10, 3, 1 + seed % 5)
            for by in (1, 2, 3):
                for x in range(-3 * by, 3 * by + 1, 2):
                    for y in range(-3 * by, 3 * by + 1, 3):
                        if gcd(by, x, y) == 1:
                            with self.subTest(seed=seed, where=(by, x, y)):
                                self.check(dots, (by, x, y))

    def test_thirty_dots(self):
        for seed, reach, heaviest in [(41, 4, 3), (42, 1000, HEAVY), (43, FAR, HEAVY), (44, FAR, 1)]:
            dots = strewn(seed, 30, reach, heaviest)
            places = [place_of(dot[:2]) for dot in dots]
            for where in [
                mixed(places[:8], [1] * 8), mixed(places[8:12], [3, 1, 4, 1]), places[5], mixed(places[1:3], [1, 1]),
                (1, 0, 0), (1, 5 * reach, 1), (BIG, 1, -2),
            ]:
                self.check(dots, where)

    def test_answers_stay(self):
        dots = strewn(45, 9, 5, 5)
        before = (depth(dots, (1, 0, 0)), lightest(dots, (1, 0, 0)))
        depth(dots[:4], (1, 1, 0))
        lightest(dots[:4], (1, 1, 0))
        self.assertEqual((depth(dots, (1, 0, 0)), lightest(dots, (1, 0, 0))), before)

    def test_places_that_were_given_out_may_be_given_back(self):
        dots = strewn(46, 16, FAR, HEAVY)
        where = mixed([place_of(dot[:2]) for dot in dots[:8]], [FAR - step for step in range(8)])
        there = mixed([where, (BIG, 1, 2)], [BIG, 3])
        self.assertGreater(there[0], 10 ** 60)
        self.check(dots, there)

    def test_sent_dots(self):
        for seed in range(6):
            dots = strewn(60 + seed, 4 + 2 * seed, 5, 6)
            for where in [(1, 0, 0), (2, 1, 3), (3, -4, 2), place_of(dots[0][:2]), (5, 2, -6)]:
                for name, by_map in MAPS.items():
                    with self.subTest(seed=seed, where=where, map=name):
                        found = self.check(sent(dots, by_map), sent_place(where, by_map))
                        self.assertEqual(found, depth(dots, where))


if __name__ == "__main__":
    unittest.main()

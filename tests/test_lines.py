import unittest
from itertools import combinations
from math import gcd

from halvecut.dots import made_dots, sent, total, weighed
from halvecut.lines import halvers, lines_of
from helpers import FAR, HEAVY, MAPS, painted, strewn


def slow_line(one, other):
    a, b = other[1] - one[1], one[0] - other[0]
    c = -a * one[0] - b * one[1]
    divisor = gcd(a, b, c)
    if (a, b) < (0, 0):
        divisor = -divisor
    return (c // divisor, a // divisor, b // divisor)


def slow_lines(dots):
    pairs = [(one, other) for one, other in combinations(dots, 2) if one[:2] != other[:2]]
    rows = set()
    for one, other in pairs:
        c, a, b = slow_line(one, other)
        weights = [0, 0, 0]
        for x, y, colour, weight in dots:
            read = c + a * x + b * y
            weights[(read > 0) - (read < 0) + 1] += weight
        rows.add(((c, a, b),) + tuple(weights))
    return sorted(rows)


class LinesTest(unittest.TestCase):
    def check(self, dots):
        given = list(dots)
        found = lines_of(dots)
        self.assertEqual(found, slow_lines(given))
        self.assertEqual(dots, given)
        self.assertIs(type(found), list)
        whole = total(dots)
        for row in found:
            self.assertIs(type(row), tuple)
            (c, a, b), under, on, over = row
            self.assertIs(type(row[0]), tuple)
            self.assertTrue(all(type(number) is int for number in (c, a, b, under, on, over)))
            self.assertEqual(gcd(c, a, b), 1)
            self.assertTrue(a > 0 or (a == 0 and b > 0))
            self.assertEqual((under, on, over), weighed(dots, (c, a, b)))
            self.assertEqual(under + on + over, whole)
        lines = [row[0] for row in found]
        self.assertEqual(lines, sorted(set(lines)))
        even = [row for row in found if 2 * row[1] <= whole and 2 * row[3] <= whole]
        self.assertEqual(halvers(dots), len(even))
        self.assertIs(type(halvers(dots)), int)

    def test_fewer_than_two_spots(self):
        for dots in ([], [(3, 4, 0, 5)], [(3, 4, 0, 5), (3, 4, 1, 6)], painted([(-FAR, FAR)] * 30)):
            with self.subTest(dots=dots):
                self.assertEqual(lines_of(dots), [])
                self.assertEqual(halvers(dots), 0)

    def test_two_spots(self):
        self.assertEqual(lines_of([(0, 0, 0, 1), (6, 4, 1, 7)]), [((0, 2, -3), 0, 8, 0)])
        self.assertEqual(halvers([(0, 0, 0, 1), (6, 4, 1, 7)]), 1)
        several = [(0, 1, 0, 1), (1, 0, 0, 2), (0, 1, 2, 3), (1, 0, 1, 4)]
        self.assertEqual(lines_of(several), [((-1, 1, 1), 0, 10, 0)])
        self.assertEqual(halvers(several), 1)

    def test_three_corners(self):
        dots = [(0, 0, 0, 1), (2, 0, 1, 10), (0, 2, 2, 100)]
        self.assertEqual(
            lines_of(dots), [((-2, 1, 1), 1, 110, 0), ((0, 0, 1), 0, 11, 100), ((0, 1, 0), 0, 101, 10)]
        )
        self.assertEqual(halvers(dots), 2)

    def test_order_is_that_of_tuples(self):
        dots = painted([(0, 0), (1, 0), (0, 1), (1, 1)])
        lines = [row[0] for row in lines_of(dots)]
        self.assertEqual(lines, [(-1, 0, 1), (-1, 1, 0), (-1, 1, 1), (0, 0, 1), (0, 1, -1), (0, 1, 0)])

    def test_all_on_one_line(self):
        for x, y, expected in [(2, 3, (-1, 3, -2)), (5, 0, (-1, 0, 1)), (0, 7, (-1, 1, 0))]:
            for count in (2, 3, 30):
                start = {(2, 3): (1, 1), (5, 0): (0, 1), (0, 7): (1, 0)}[(x, y)]
                dots = painted([(start[0] + x * step, start[1] + y * step) for step in range(count)], 1, 3)
                with self.subTest(line=expected, count=count):
                    self.assertEqual(lines_of(dots), [(expected, 0, 3 * count, 0)])
                    self.assertEqual(halvers(dots), 1)

    def test_upright_and_level(self):
        dots = [(3, 0, 0, 1), (3, 5, 0, 2), (-4, 5, 0, 4), (3, 9, 0, 8)]
        found = lines_of(dots)
        self.assertIn(((-3, 1, 0), 4, 11, 0), found)
        self.assertIn(((-5, 0, 1), 1, 6, 8), found)
        self.assertEqual(len(found), 4)

    def test_a_line_of_many_dots_is_listed_once(self):
        dots = painted([(0, 0), (1, 1), (2, 2), (5, 0), (2, 2), (3, 3)])
        self.assertEqual(len(lines_of(dots)), 5)
        self.assertIn(((0, 1, -1), 0, 5, 1), lines_of(dots))
        self.check(dots)

    def test_strewn_dots(self):
        for seed in range(12):
            for count, reach, heaviest in [(5, 3, 1), (8, 2, 4), (9, 50, HEAVY)]:
                with self.subTest(seed=seed, count=count, reach=reach):
                    self.check(strewn(seed, count, reach, heaviest))

    def test_thirty_dots(self):
        self.check(strewn(1, 30, 3, 9))
        self.check(strewn(2, 30, 1000, HEAVY))
        self.check(painted([(number, number * number) for number in range(30)]))
        self.assertEqual(len(lines_of(painted([(number, number * number) for number in range(30)]))), 435)

    def test_twelve_digits(self):
        self.check(strewn(3, 30, FAR, HEAVY))
        corners = painted([(FAR, FAR), (-FAR, FAR), (-FAR, -FAR), (FAR, -FAR), (FAR - 1, FAR)])
        self.check(corners)
        thin = painted([(-FAR, -FAR), (FAR, FAR - 1), (0, 0)])
        self.assertEqual(len(lines_of(thin)), 3)

    def test_heavy_dots(self):
        dots = [(0, 0, 0, HEAVY), (1, 0, 1, HEAVY), (0, 1, 2, HEAVY)]
        self.assertEqual(lines_of(dots)[0], ((-1, 1, 1), HEAVY, 2 * HEAVY, 0))
        self.assertEqual(halvers(dots), 3)

    def test_what_came_back_is_the_callers_own(self):
        dots = strewn(4, 8, 5, 3)
        given = list(dots)
        first = lines_of(dots)
        kept = list(first)
        first.clear()
        first.append("other")
        lines_of(strewn(5, 8, 5, 3))
        self.assertEqual(lines_of(dots), kept)
        self.assertEqual(dots, given)
        self.assertIsNot(lines_of(dots), lines_of(dots))
        nothing = []
        lines_of(nothing).append("more")
        self.assertEqual(lines_of(nothing), [])
        self.assertEqual(nothing, [])

    def test_dots_made_of_lists(self):
        dots = made_dots([[0, 0, 0, 1], [4, 2, 1, 1]])
        self.assertEqual(lines_of(dots), [((0, 1, -2), 0, 2, 0)])


class HalversTest(unittest.TestCase):
    def test_odd_totals(self):
        # A triangle of weight 3: one of three is less than half.
        self.assertEqual(halvers(painted([(0, 0), (4, 0), (0, 4)])), 3)
        # One corner weighs 2 of 5, the line of the other two halves; with 3 of 5 it does not.
        self.assertEqual(halvers([(0, 0, 0, 2), (4, 0, 0, 1), (0, 4, 0, 2)]), 3)
        self.assertEqual(halvers([(0, 0, 0, 3), (4, 0, 0, 1), (0, 4, 0, 1)]), 2)

    def test_even_totals(self):
        # Exactly half on one side still halves.
        self.assertEqual(halvers([(0, 0, 0, 2), (4, 0, 0, 1), (0, 4, 0, 1)]), 3)
        self.assertEqual(halvers([(0, 0, 0, 4), (4, 0, 0, 1), (0, 4, 0, 1)]), 2)
        square = [(0, 0), (1, 0), (0, 1), (1, 1)]
        self.assertEqual(halvers(painted(square)), 6)
        # With three dots on one corner the two sides that do not touch it have four of six beside them.
        self.assertEqual(halvers(painted(square + [(0, 0), (0, 0)])), 4)

    def test_under_and_over_both_count(self):
        row = [(0, 0, 0, 1), (2, 0, 0, 1)]
        for heavy in [(1, 5, 0, 3), (1, -5, 0, 3)]:
            self.assertEqual(halvers(row + [heavy]), 2)

    def test_there_is_a_halver_if_there_are_two_spots(self):
        for seed in range(40):
            dots = strewn(seed, 2 + seed % 8, 2, 5)
            if len({dot[:2] for dot in dots}) > 1:
                self.assertGreater(halvers(dots), 0)

    def test_dots_handed_in_stay(self):
        dots = strewn(6, 9, 9, 9)
        given = list(dots)
        before = halvers(dots)
        halvers(given[:4])
        self.assertEqual(halvers(dots), before)
        self.assertEqual(dots, given)


class SentLinesTest(unittest.TestCase):
    def test_numbers_of_lines_and_of_halvers_stay(self):
        for seed in range(6):
            dots = strewn(seed, 9 + 3 * seed, 4, 5)
            for name, by_map in MAPS.items():
                with self.subTest(seed=seed, map=name):
                    there = sent(dots, by_map)
                    self.assertEqual(len(lines_of(there)), len(lines_of(dots)))
                    self.assertEqual(halvers(there), halvers(dots))

    def test_weights_beside_the_lines_stay(self):
        dots = strewn(7, 10, 5, 30)
        for name, by_map in MAPS.items():
            with self.subTest(map=name):
                found = [sorted([sorted([row[1], row[3]]), [row[2]]]) for row in lines_of(sent(dots, by_map))]
                asked = [sorted([sorted([row[1], row[3]]), [row[2]]]) for row in lines_of(dots)]
                self.assertEqual(sorted(found), sorted(asked))


if __name__ == "__main__":
    unittest.main()

import unittest
from itertools import combinations

from halvecut.cuts import fair_pair, quartered, quarters
from halvecut.dots import sent, total
from halvecut.gauges import line
from halvecut.places import place_of
from helpers import FAR, HEAVY, MAPS, beside, painted, strewn, turn


def is_even(dots, i, j, colour):
    ours = [dots[i], dots[j]] + [dot for dot in dots if colour is None or dot[2] == colour]
    # The two dots in front lie on the line itself, so they add to neither side.
    whole = sum(dot[3] for dot in ours[2:])
    return all(2 * weight <= whole for weight in beside(ours, 0, 1))


def slow_fair_pair(dots, one, other):
    considered = [number for number, dot in enumerate(dots) if dot[2] in (one, other)]
    fair = [
        (i, j)
        for i, j in combinations(considered, 2)
        if dots[i][:2] != dots[j][:2] and is_even(dots, i, j, one) and is_even(dots, i, j, other)
    ]
    return min(fair, default=None)


def slow_quartered(dots):
    pairs = [(i, j) for i, j in combinations(range(len(dots)), 2) if dots[i][:2] != dots[j][:2]]
    if not pairs:
        return None
    i, j = min(pair for pair in pairs if is_even(dots, pair[0], pair[1], None))
    whole = sum(dot[3] for dot in dots)
    fit = []
    for k, m in pairs:
        weights = {}
        for dot in dots:
            first, second = turn(dots[i], dots[j], dot), turn(dots[k], dots[m], dot)
            if first != 0 and second != 0:
                weights[first > 0, second > 0] = weights.get((first > 0, second > 0), 0) + dot[3]
        if all(4 * weight <= whole for weight in weights.values()):
            fit.append((k, m))
    return ((i, j), min(fit))


class FairPairTest(unittest.TestCase):
    def check(self, dots):
        given = list(dots)
        for one in range(3):
            for other in range(3):
                with self.subTest(dots=dots, one=one, other=other):
                    found = fair_pair(dots, one, other)
                    self.assertEqual(found, slow_fair_pair(given, one, other))
                    self.assertEqual(found, fair_pair(dots, other, one))
                    spots = {dot[:2] for dot in dots if dot[2] in (one, other)}
                    self.assertEqual(found is None, len(spots) < 2)
                    if found is not None:
                        self.assertIs(type(found), tuple)
                        self.assertEqual([type(number) for number in found], [int, int])
        self.assertEqual(dots, given)

    def test_no_dots(self):
        self.check([])
        self.assertIsNone(fair_pair([], 0, 1))
        self.assertIsNone(fair_pair([], 2, 2))

    def test_no_dot_of_either_colour(self):
        dots = painted([(0, 0), (1, 0), (5, 7)], 2)
        self.assertIsNone(fair_pair(dots, 0, 1))
        self.assertIsNone(fair_pair(dots, 1, 1))

    def test_one_spot(self):
        self.assertIsNone(fair_pair([(3, 4, 0, 1)], 0, 0))
        self.assertIsNone(fair_pair([(3, 4, 0, 1), (3, 4, 1, 7)], 0, 1))
        self.assertIsNone(fair_pair([(3, 4, 0, 1), (3, 4, 1, 7), (0, 0, 2, 1)], 0, 1))
        self.assertEqual(fair_pair([(3, 4, 0, 1), (3, 4, 1, 7), (0, 0, 2, 1)], 0, 2), (0, 2))

    def test_two_spots(self):
        self.assertEqual(fair_pair([(0, 0, 0, 1), (1, 1, 1, 9)], 0, 1), (0, 1))
        self.assertEqual(fair_pair([(0, 0, 0, 1), (0, 0, 1, 1), (1, 1, 1, 9)], 0, 1), (0, 2))

    def test_two_unlike_colours(self):
        # Of three dots at most one may be on either side, so the line goes through both middle ones.
        dots = painted([(0, 0), (10, 1), (20, 0)], 0) + painted([(5, 9), (10, 11), (15, 9)], 1)
        self.assertEqual(fair_pair(dots, 0, 1), (1, 4))
        self.assertEqual(fair_pair(dots, 1, 0), (1, 4))
        self.check(dots)

    def test_the_same_colour_twice(self):
        dots = painted([(0, 0), (4, 0), (0, 4), (1, 1), (1, 2)], 1) + painted([(50, 50), (60, 80)], 0)
        self.assertEqual(fair_pair(dots, 1, 1), (0, 3))
        self.assertEqual(fair_pair(dots, 0, 0), (5, 6))
        self.check(dots)

    def test_a_colour_that_no_dot_has(self):
        dots = painted([(0, 0), (4, 0), (0, 4), (1, 1), (1, 2)], 1)
        self.assertEqual(fair_pair(dots, 1, 2), (0, 3))
        self.assertEqual(fair_pair(dots, 0, 1), (0, 3))

    def test_dots_of_the_third_colour_do_not_count(self):
        ours = painted([(0, 0), (8, 0)], 0) + painted([(0, 8), (8, 8)], 1)
        between = [(4, number, 2, HEAVY) for number in range(9)]
        # Their numbers count, for they are dots; neither their spots nor their weights do.
        self.assertEqual(fair_pair(ours, 0, 1), (0, 2))
        self.assertEqual(fair_pair(ours + between, 0, 1), (0, 2))
        self.assertEqual(fair_pair(between + ours, 0, 1), (9, 11))
        self.check(ours[:1] + between[:4] + ours[1:])

    def test_half_of_an_odd_weight(self):
        # Of 5 at most 2 may be on one side, of 4 just 2.
        dots = [(0, 0, 0, 1), (2, 0, 0, 1), (1, 5, 0, 3)]
        self.assertEqual(fair_pair(dots, 0, 0), (0, 2))
        dots = [(0, 0, 0, 1), (2, 0, 0, 1), (1, 5, 0, 2)]
        self.assertEqual(fair_pair(dots, 0, 0), (0, 1))

    def test_under_and_over_both_count(self):
        for heavy in [(1, 5, 0, 3), (1, -5, 0, 3)]:
            dots = [(0, 0, 0, 1), (2, 0, 0, 1), heavy]
            self.assertEqual(fair_pair(dots, 0, 0), (0, 2))

    def test_each_colour_counts_by_itself(self):
        # All weight together is halved by the first two, but colour 1 is all on one side.
        dots = [(0, 0, 0, 10), (9, 0, 0, 10), (2, 3, 1, 1), (5, 3, 1, 1)]
        self.assertEqual(fair_pair(dots, 0, 1), (0, 2))

    def test_many_dots_on_one_spot(self):
        dots = painted([(1, 1)] * 6, 0) + painted([(1, 1), (7, 3), (1, 1)], 1) + painted([(-4, 2)] * 3, 0)
        self.check(dots)
        self.assertEqual(fair_pair(dots, 0, 1), (0, 7))

    def test_all_on_one_line(self):
        for x, y in [(3, 2), (1, 0), (0, 1)]:
            dots = [(x * number, y * number, number % 2, number + 1) for number in range(8)]
            self.assertEqual(fair_pair(dots, 0, 1), (0, 1))
            self.assertEqual(fair_pair(dots, 1, 1), (1, 3))
            self.check(dots)

    def test_strewn_dots(self):
        for seed in range(25):
            self.check(strewn(seed, 2 + seed % 9, 2 + seed % 3, 1 + seed % 4))
            self.check(strewn(seed, 9, 100, HEAVY))

    def test_thirty_dots(self):
        self.check(strewn(31, 30, 3, 7))
        self.check(strewn(32, 30, 5000, HEAVY))
        self.check(strewn(33, 30, FAR, HEAVY))

    def test_dots_stay_and_answers_stay(self):
        dots = strewn(34, 12, 9, 9)
        given = list(dots)
        before = fair_pair(dots, 0, 1)
        fair_pair(given[3:], 0, 2)
        self.assertEqual(fair_pair(dots, 0, 1), before)
        self.assertEqual(dots, given)


class QuarteredTest(unittest.TestCase):
    def check(self, dots):
        given = list(dots)
        found = quartered(dots)
        self.assertEqual(found, slow_quartered(given))
        self.assertEqual(dots, given)
        if found is not None:
            self.assertIs(type(found), tuple)
            self.assertEqual([type(pair) for pair in found], [tuple, tuple])
            lines = [line(place_of(dots[i][:2]), place_of(dots[j][:2])) for i, j in found]
            self.assertLessEqual(4 * max(quarters(dots, lines[0], lines[1])), total(dots))

    def test_fewer_than_two_spots(self):
        for dots in ([], [(1, 2, 0, 3)], [(1, 2, 0, 3), (1, 2, 1, 3)], painted([(0, 0)] * 30)):
            self.assertIsNone(quartered(dots))

    def test_two_spots(self):
        self.assertEqual(quartered([(0, 0, 0, 1), (1, 1, 1, 5)]), ((0, 1), (0, 1)))
        self.assertEqual(quartered([(0, 0, 0, 1), (0, 0, 2, 1), (1, 1, 1, 5)]), ((0, 2), (0, 2)))

    def test_all_on_one_line(self):
        for x, y in [(3, 2), (1, 0), (0, 1)]:
            for count in (2, 3, 30):
                dots = [(x * number, y * number, number % 3, number + 1) for number in range(count)]
                self.assertEqual(quartered(dots), ((0, 1), (0, 1)))

    def test_first_and_then_second(self):
        # A quarter of 4 is 1; the side (0, 1), taken twice, leaves both others in one quarter.
        square = painted([(0, 0), (10, 0), (10, 10), (0, 10)])
        self.assertEqual(quartered(square), ((0, 1), (0, 2)))
        self.check(square)
        cross = painted([(-5, 0), (5, 0), (0, -5), (0, 5)])
        self.assertEqual(quartered(cross), ((0, 1), (0, 1)))
        self.check(cross)

    def test_exactly_a_quarter_is_not_too_much(self):
        dots = [(0, 0, 0, 1), (10, 1, 0, 1), (3, 5, 0, 1), (4, -5, 0, 1)]
        self.assertEqual(quartered(dots), ((0, 1), (0, 1)))
        heavier = [(0, 0, 0, 1), (10, 1, 0, 1), (3, 5, 0, 2), (4, -5, 0, 2)]
        self.assertEqual(quartered(heavier), ((0, 1), (2, 3)))
        self.check(heavier)

    def test_colours_do_not_matter(self):
        dots = strewn(40, 14, 20, 9)
        grey = [(x, y, 0, weight) for x, y, colour, weight in dots]
        self.assertEqual(quartered(dots), quartered(grey))

    def test_strewn_dots(self):
        for seed in range(30):
            with self.subTest(seed=seed):
                self.check(strewn(seed, 2 + seed % 9, 2 + seed % 3, 1 + seed % 4))
                self.check(strewn(seed, 8, 60, HEAVY))

    def test_twenty_dots_and_thirty(self):
        self.check(strewn(41, 20, 40, 1))
        self.check(strewn(42, 20, 3, HEAVY))
        self.check(strewn(43, 30, 4, 3))
        self.check(strewn(44, 30, FAR, 1))
        self.check(strewn(45, 30, FAR, HEAVY))

    def test_dots_stay_and_answers_stay(self):
        dots = strewn(46, 12, 9, 9)
        given = list(dots)
        before = quartered(dots)
        quartered(given[3:])
        self.assertEqual(quartered(dots), before)
        self.assertEqual(dots, given)


class QuartersTest(unittest.TestCase):
    def test_order(self):
        # Left and below, left and above, right and below, right and above.
        dots = [(-1, -1, 0, 1), (-1, 1, 1, 20), (1, -1, 2, 300), (1, 1, 0, 4000)]
        self.assertEqual(quarters(dots, (0, 1, 0), (0, 0, 1)), [1, 20, 300, 4000])
        self.assertEqual(quarters(dots, (0, 0, 1), (0, 1, 0)), [1, 300, 20, 4000])
        self.assertEqual(quarters(dots, (0, -1, 0), (0, 0, 1)), [300, 4000, 1, 20])
        self.assertEqual(quarters(dots, (0, 1, 0), (0, 0, -1)), [20, 1, 4000, 300])

    def test_dots_on_either_gauge_are_in_no_quarter(self):
        dots = [(0, 0, 0, 1), (0, 5, 0, 2), (0, -5, 0, 4), (5, 0, 0, 8), (-5, 0, 0, 16), (7, 7, 0, 32)]
        self.assertEqual(quarters(dots, (0, 1, 0), (0, 0, 1)), [0, 0, 0, 32])

    def test_weights_are_added_up(self):
        dots = [(1, 1, 0, 1), (2, 2, 1, 10), (1, 1, 2, 100), (-1, 4, 0, HEAVY), (-1, 4, 1, HEAVY)]
        self.assertEqual(quarters(dots, (0, 1, 0), (0, 0, 1)), [0, 2 * HEAVY, 0, 111])

    def test_level_gauges(self):
        dots = [(-1, 0, 0, 1), (2, 0, 0, 20), (0, 3, 0, 300)]
        self.assertEqual(quarters(dots, (1, 0, 0), (0, 1, 0)), [0, 0, 1, 20])
        self.assertEqual(quarters(dots, (-1, 0, 0), (0, 1, 0)), [1, 20, 0, 0])
        self.assertEqual(quarters(dots, (0, 1, 0), (5, 0, 0)), [0, 1, 0, 20])
        self.assertEqual(quarters(dots, (0, 0, 0), (0, 1, 0)), [0, 0, 0, 0])
        self.assertEqual(quarters(dots, (-1, 0, 0), (-1, 0, 0)), [321, 0, 0, 0])

    def test_equal_gauges(self):
        dots = [(-1, 0, 0, 1), (2, 0, 0, 20), (0, 3, 0, 300)]
        self.assertEqual(quarters(dots, (0, 1, 0), (0, 1, 0)), [1, 0, 0, 20])
        self.assertEqual(quarters(dots, (0, 1, 0), (0, -1, 0)), [0, 1, 20, 0])

    def test_gauges_of_many_digits(self):
        big = 10 ** 59 + 7
        dots = [(FAR, 0, 0, 1), (-FAR, 0, 0, 2), (0, FAR, 0, 4)]
        self.assertEqual(quarters(dots, (0, big, 0), (big, 0, -1)), [0, 2, 0, 1])

    def test_no_dots(self):
        self.assertEqual(quarters([], (0, 1, 0), (0, 0, 1)), [0, 0, 0, 0])

    def test_a_fresh_list(self):
        dots = [(-1, -1, 0, 1), (1, 1, 0, 4)]
        first = quarters(dots, (0, 1, 0), (0, 0, 1))
        self.assertIs(type(first), list)
        first[0] = 99
        first.append(7)
        self.assertEqual(quarters(dots, (0, 1, 0), (0, 0, 1)), [1, 0, 0, 4])
        self.assertEqual(dots, [(-1, -1, 0, 1), (1, 1, 0, 4)])


class SentCutsTest(unittest.TestCase):
    def test_pairs_stay(self):
        for seed in range(8):
            dots = strewn(50 + seed, 6 + 3 * seed, 4 + seed, 1 + seed)
            for name, by_map in MAPS.items():
                with self.subTest(seed=seed, map=name):
                    there = sent(dots, by_map)
                    for one, other in [(0, 1), (1, 2), (2, 2), (2, 0)]:
                        self.assertEqual(fair_pair(there, one, other), fair_pair(dots, one, other))
                    self.assertEqual(quartered(there), quartered(dots))


if __name__ == "__main__":
    unittest.main()

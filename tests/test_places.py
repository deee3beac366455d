import unittest
from fractions import Fraction
from itertools import permutations, product
from math import gcd

from halvecut.errors import NoPlace
from halvecut.places import mixed, place, place_of, rank, swing

BIG = 10 ** 39 + 7
BIGGER = 10 ** 59 + 9


def point(written):
    by, x, y = written
    return (Fraction(x, by), Fraction(y, by))


def some_places():
    return [place(by, x, y) for by in (1, 2, 3) for x in (-3, 0, 2) for y in (-2, 0, 3)]


class PlaceTest(unittest.TestCase):
    def check_form(self, written):
        self.assertIs(type(written), tuple)
        self.assertEqual([type(number) for number in written], [int, int, int])
        self.assertGreater(written[0], 0)
        self.assertEqual(gcd(*written), 1)

    def test_common_divisors_are_taken_out(self):
        self.assertEqual(place(2, 4, 6), (1, 2, 3))
        self.assertEqual(place(6, 4, 10), (3, 2, 5))
        self.assertEqual(place(30, -12, 18), (5, -2, 3))

    def test_divisors_of_two_numbers_alone_stay(self):
        self.assertEqual(place(2, 4, 3), (2, 4, 3))
        self.assertEqual(place(6, 10, 15), (6, 10, 15))
        self.assertEqual(place(3, 4, 6), (3, 4, 6))

    def test_negative_by(self):
        self.assertEqual(place(-1, 3, -4), (1, -3, 4))
        self.assertEqual(place(-2, -4, 6), (1, 2, -3))
        self.assertEqual(place(-5, 0, 1), (5, 0, -1))

    def test_noughts(self):
        self.assertEqual(place(7, 0, 0), (1, 0, 0))
        self.assertEqual(place(-7, 0, 0), (1, 0, 0))
        self.assertEqual(place(4, 0, 6), (2, 0, 3))
        self.assertEqual(place(4, 6, 0), (2, 3, 0))

    def test_by_nought_is_refused(self):
        for x, y in product((0, 1, -1, 5, BIG), repeat=2):
            with self.subTest(x=x, y=y):
                with self.assertRaises(NoPlace):
                    place(0, x, y)

    def test_large_ints(self):
        self.assertEqual(place(6 * BIG, 4 * BIG, -10 * BIG), (3, 2, -5))
        self.assertEqual(place(-BIGGER, BIGGER, 0), (1, -1, 0))
        self.assertEqual(place(BIG, BIG + 1, BIGGER), (BIG, BIG + 1, BIGGER))
        self.assertEqual(place(-3 * BIGGER, 3 * BIG, 9), (BIGGER, -BIG, -3))

    def test_form_and_worth_over_a_grid(self):
        for by, x, y in product(range(-6, 7), range(-6, 7), range(-6, 7)):
            if by != 0:
                written = place(by, x, y)
                self.check_form(written)
                self.assertEqual(point(written), (Fraction(x, by), Fraction(y, by)))

    def test_one_way_to_write_each(self):
        for factor in (-4, -1, 2, 3, BIG):
            self.assertEqual(place(3 * factor, 5 * factor, -2 * factor), (3, 5, -2))

    def test_same_answer_whatever_came_between(self):
        before = place(4, 6, 8)
        place(-9, 3, 3)
        with self.assertRaises(NoPlace):
            place(0, 6, 8)
        self.assertEqual(place(4, 6, 8), before)


class PlaceOfTest(unittest.TestCase):
    def test_spots(self):
        far = 999999999999
        for spot in [(0, 0), (3, 4), (-3, 4), (6, -9), (far, -far), (-far, far), (2, 2)]:
            with self.subTest(spot=spot):
                written = place_of(spot)
                self.assertEqual(written, (1,) + spot)
                self.assertIs(type(written), tuple)


class RankTest(unittest.TestCase):
    def test_left_and_right(self):
        self.assertEqual(rank((1, 0, 9), (1, 1, 0)), -1)
        self.assertEqual(rank((1, 1, 0), (1, 0, 9)), 1)
        self.assertEqual(rank((1, -2, 0), (1, -1, -5)), -1)

    def test_straight_above_one_another(self):
        self.assertEqual(rank((1, 2, -1), (1, 2, 1)), -1)
        self.assertEqual(rank((1, 2, 1), (1, 2, -1)), 1)
        self.assertEqual(rank((2, 4, 1), (3, 6, 2)), -1)
        self.assertEqual(rank((3, 6, 2), (2, 4, 1)), 1)

    def test_equal(self):
        self.assertEqual(rank((3, 1, -2), (3, 1, -2)), 0)
        self.assertEqual(rank((1, 0, 0), (1, 0, 0)), 0)

    def test_unlike_by(self):
        self.assertEqual(rank((3, 1, 0), (2, 1, 0)), -1)
        self.assertEqual(rank((2, 1, 0), (3, 1, 0)), 1)
        self.assertEqual(rank((3, -1, 0), (2, -1, 0)), 1)
        self.assertEqual(rank((BIG, 1, 0), (BIG + 1, 1, 0)), 1)
        self.assertEqual(rank((BIG, BIG, 1), (1, 1, 1)), -1)

    def test_against_fractions(self):
        for one, other in product(some_places(), repeat=2):
            left, right = point(one), point(other)
            self.assertEqual(rank(one, other), (left > right) - (left < right))


class SwingTest(unittest.TestCase):
    def test_directions(self):
        self.assertEqual(swing((1, 0, 0), (1, 1, 0), (1, 0, 1)), 1)
        self.assertEqual(swing((1, 0, 0), (1, 0, 1), (1, 1, 0)), -1)
        self.assertEqual(swing((1, 0, 0), (1, 1, 1), (1, 5, 5)), 0)
        self.assertEqual(swing((1, 2, 3), (1, 7, -1), (1, 4, 8)), 33)

    def test_two_alike(self):
        one, other = (2, 3, 5), (7, -1, 4)
        for three in [(one, one, other), (one, other, one), (other, one, one), (one, one, one)]:
            self.assertEqual(swing(*three), 0)

    def test_unlike_by(self):
        self.assertEqual(swing((2, 1, 0), (3, 0, 1), (5, 2, 2)), -5)
        self.assertEqual(swing((2, 1, 1), (3, 5, 5), (1, -7, -7)), 0)
        self.assertEqual(swing((1, 0, 0), (2, 1, 0), (3, 0, 1)), 1)
        self.assertEqual(swing((BIG, 0, 0), (1, 1, 0), (1, 0, 1)), BIG)

    def test_as_the_document_writes_it(self):
        for one, two, three in permutations(some_places()[::4], 3):
            (by1, x1, y1), (by2, x2, y2), (by3, x3, y3) = one, two, three
            asked = by1 * (x2 * y3 - x3 * y2) + by2 * (x3 * y1 - x1 * y3) + by3 * (x1 * y2 - x2 * y1)
            self.assertEqual(swing(one, two, three), asked)

    def test_sign_is_the_turn(self):
        for one, two, three in permutations(some_places()[::3], 3):
            (x1, y1), (x2, y2), (x3, y3) = point(one), point(two), point(three)
            turn = (x2 - x1) * (y3 - y1) - (x3 - x1) * (y2 - y1)
            found = swing(one, two, three)
            self.assertEqual((found > 0, found < 0), (turn > 0, turn < 0))


class MixedTest(unittest.TestCase):
    def test_one_place(self):
        self.assertEqual(mixed([(3, 1, -2)], [1]), (3, 1, -2))
        self.assertEqual(mixed([(3, 1, -2)], [14]), (3, 1, -2))

    def test_two_places(self):
        self.assertEqual(mixed([(1, 0, 0), (1, 1, 0)], [1, 1]), (2, 1, 0))
        self.assertEqual(mixed([(1, 0, 0), (1, 3, 6)], [2, 1]), (1, 1, 2))
        self.assertEqual(mixed([(1, 0, 0), (1, 3, 6)], [1, 2]), (1, 2, 4))
        self.assertEqual(mixed([(2, 1, 0), (3, 0, 1)], [1, 1]), (12, 3, 2))

    def test_common_divisor_of_shares_makes_no_difference(self):
        places = [(1, 0, 0), (2, 1, 5), (3, -4, 1)]
        self.assertEqual(mixed(places, [6, 10, 14]), mixed(places, [3, 5, 7]))

    def test_one_place_often(self):
        self.assertEqual(mixed([(2, 1, 5)] * 8, [1, 2, 3, 4, 5, 6, 7, 8]), (2, 1, 5))

    def test_against_fractions(self):
        places = [(1, 4, -2), (2, 1, 5), (3, -4, 1), (5, 0, 0), (7, 1, 1), (4, -9, 2), (6, 1, 6), (11, 3, -8)]
        shares = [3, 1, 4, 1, 5, 9, 2, 6]
        for count in range(1, 9):
            for start in range(9 - count):
                some, by = places[start:start + count], shares[start:start + count]
                self.check_centre(some, by)
                self.check_centre(some, [BIG + share for share in by])

    def check_centre(self, places, shares):
        points = [point(written) for written in places]
        x = sum(share * at[0] for share, at in zip(shares, points)) / sum(shares)
        y = sum(share * at[1] for share, at in zip(shares, points)) / sum(shares)
        found = mixed(places, shares)
        self.assertIs(type(found), tuple)
        self.assertEqual([type(number) for number in found], [int, int, int])
        self.assertEqual(point(found), (x, y))
        self.assertGreater(found[0], 0)
        self.assertEqual(gcd(*found), 1)

    def test_large_places(self):
        places = [(BIG + step, BIG - step, -BIG * (step % 2) + 1) for step in range(8)]
        self.check_centre(places, [BIG * (step + 1) for step in range(8)])

    def test_somewhat_more_than_eight_are_not_refused(self):
        self.check_centre([(step + 1, step, 1) for step in range(12)], list(range(1, 13)))

    def test_lists_handed_in_stay(self):
        places, shares = [(1, 0, 0), (2, 1, 5), (3, -4, 1)], [6, 10, 14]
        before = mixed(places, shares)
        self.assertEqual(places, [(1, 0, 0), (2, 1, 5), (3, -4, 1)])
        self.assertEqual(shares, [6, 10, 14])
        mixed([(1, 1, 1)], [2])
        self.assertEqual(mixed(places, shares), before)


if __name__ == "__main__":
    unittest.main()

import unittest
from itertools import product
from math import gcd

from halvecut.errors import NoLine
from halvecut.gauges import crossing, line, side, value
from halvecut.places import place

BIG = 10 ** 39 + 7


def some_places():
    return sorted({place(by, x, y) for by in (1, 2, 3) for x in (-3, 0, 2) for y in (-2, 0, 3)})


class ReadingTest(unittest.TestCase):
    def test_value(self):
        self.assertEqual(value((5, 2, -3), (1, 0, 0)), 5)
        self.assertEqual(value((5, 2, -3), (2, 7, 1)), 21)
        self.assertEqual(value((0, 1, 0), (4, -9, 100)), -9)
        self.assertEqual(value((0, 0, 1), (4, -9, 100)), 100)
        self.assertEqual(value((BIG, -BIG, 1), (BIG, 1, -1)), BIG * BIG - BIG - 1)

    def test_side(self):
        self.assertEqual(side((-3, 1, 1), (1, 2, 2)), 1)
        self.assertEqual(side((-3, 1, 1), (1, 1, 2)), 0)
        self.assertEqual(side((-3, 1, 1), (1, 1, 1)), -1)
        self.assertEqual(side((-3, 2, 4), (2, 1, 1)), 0)
        self.assertEqual(side((-3, 2, 4), (3, 1, 1)), -1)
        self.assertEqual(side((BIG, 0, -1), (1, 5, BIG)), 0)
        self.assertEqual(side((BIG, 0, -1), (1, 5, BIG - 1)), 1)

    def test_level_gauges(self):
        for written in [(1, 0, 0), (3, -4, 5), (7, BIG, -BIG)]:
            self.assertEqual(value((4, 0, 0), written), 4 * written[0])
            self.assertEqual(value((0, 0, 0), written), 0)
            self.assertEqual(side((4, 0, 0), written), 1)
            self.assertEqual(side((0, 0, 0), written), 0)
            self.assertEqual(side((-1, 0, 0), written), -1)

    def test_same_answer_whatever_came_between(self):
        self.assertEqual(value((1, 2, 3), (1, 1, 1)), 6)
        value((9, 9, 9), (2, 2, 2))
        self.assertEqual(value((1, 2, 3), (1, 1, 1)), 6)


class LineTest(unittest.TestCase):
    def check_form(self, found):
        c, a, b = found
        self.assertIs(type(found), tuple)
        self.assertEqual([type(number) for number in found], [int, int, int])
        self.assertTrue(a > 0 or (a == 0 and b > 0))
        self.assertEqual(gcd(c, a, b), 1)

    def test_upright_level_and_slanting(self):
        self.assertEqual(line((1, 2, 0), (1, 2, 5)), (-2, 1, 0))
        self.assertEqual(line((1, 0, 3), (1, 7, 3)), (-3, 0, 1))
        self.assertEqual(line((1, 0, -3), (1, 7, -3)), (3, 0, 1))
        self.assertEqual(line((1, 0, 0), (1, 1, 1)), (0, 1, -1))
        self.assertEqual(line((1, 0, 1), (1, 1, 0)), (-1, 1, 1))

    def test_divisors_are_taken_out(self):
        self.assertEqual(line((1, 0, 0), (1, 6, 4)), (0, 2, -3))
        self.assertEqual(line((1, 0, 0), (1, 0, 12)), (0, 1, 0))
        self.assertEqual(line((1, 4, 6), (1, 10, 6)), (-6, 0, 1))
        self.assertEqual(line((2, 1, 0), (2, 1, 8)), (-1, 2, 0))
        self.assertEqual(line((1, 0, BIG), (1, BIG, 0)), (-BIG, 1, 1))

    def test_two_distinct_places(self):
        for one, other in product(some_places(), repeat=2):
            if one != other:
                found = line(one, other)
                self.check_form(found)
                self.assertEqual(value(found, one), 0)
                self.assertEqual(value(found, other), 0)
                self.assertEqual(found, line(other, one))

    def test_large_places(self):
        one, other = (BIG, BIG + 1, -BIG), (BIG + 2, 3 - BIG, 5)
        found = line(one, other)
        self.check_form(found)
        self.assertEqual([value(found, one), value(found, other)], [0, 0])
        self.assertEqual(found, line(other, one))

    def test_one_place_twice(self):
        for written in [(1, 0, 0), (1, 5, -7), (3, 1, 2), (BIG, 1, BIG + 1)]:
            with self.subTest(place=written):
                with self.assertRaises(NoLine):
                    line(written, tuple(list(written)))


class CrossingTest(unittest.TestCase):
    def test_lines_that_cross(self):
        self.assertEqual(crossing((0, 1, 0), (0, 0, 1)), (1, 0, 0))
        self.assertEqual(crossing((-2, 1, 0), (3, 0, 1)), (1, 2, -3))
        self.assertEqual(crossing((0, 1, -1), (-1, 1, 1)), (2, 1, 1))
        self.assertEqual(crossing((-1, 2, 0), (-1, 0, 3)), (6, 3, 2))
        self.assertEqual(crossing((-2, 1, 3), (-4, 1, -5)), (4, 11, -1))

    def test_lines_of_one_direction(self):
        self.assertIsNone(crossing((0, 1, -1), (5, 1, -1)))
        self.assertIsNone(crossing((0, 1, 0), (1, 2, 0)))
        self.assertIsNone(crossing((1, 0, 2), (1, 0, 1)))
        self.assertIsNone(crossing((1, 4, 6), (7, 2, 3)))

    def test_line_with_itself(self):
        for one in [(0, 1, 0), (-3, 0, 1), (5, 2, -3)]:
            self.assertIsNone(crossing(one, one))

    def test_lines_of_places(self):
        places = some_places()[::2]
        lines = sorted({line(one, other) for one in places for other in places if one != other})
        for one, other in product(lines, repeat=2):
            found = crossing(one, other)
            if one[1] * other[2] == one[2] * other[1]:
                self.assertIsNone(found)
            else:
                self.assertEqual([value(one, found), value(other, found)], [0, 0])
                self.assertEqual(found, place(*found))
                self.assertIs(type(found), tuple)
                self.assertEqual(found, crossing(other, one))

    def test_large_lines(self):
        one, other = (BIG, BIG + 1, -BIG), (-3 * BIG, 7, BIG + 6)
        found = crossing(one, other)
        self.assertEqual([value(one, found), value(other, found)], [0, 0])
        self.assertEqual(found, place(*found))
        self.assertEqual(found, crossing(other, one))


if __name__ == "__main__":
    unittest.main()

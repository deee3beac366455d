import unittest
from fractions import Fraction

from halvecut.dots import made_dots, sent, sent_place, total, weighed
from halvecut.errors import NoDots, NoMap
from halvecut.gauges import side
from halvecut.places import place, place_of

FAR = 999999999999
HEAVY = 999999999
OTHER_KINDS = [None, True, False, 0, 7, 1.0, "", "text", b"1234", {}, {0: 1}, set(), object(), range(4)]
SOME = [(0, 0, 0, 1), (3, -1, 1, 20), (3, -1, 0, 300), (-5, 2, 2, 4000), (1, 1, 1, 50000)]


class MadeDotsTest(unittest.TestCase):
    def refused(self, rows):
        with self.assertRaises(NoDots):
            made_dots(rows)

    def test_tuples_and_lists(self):
        self.assertEqual(made_dots(list(SOME)), SOME)
        self.assertEqual(made_dots([list(row) for row in SOME]), SOME)
        self.assertEqual(made_dots([[1, 2, 0, 3], (1, 2, 0, 3)]), [(1, 2, 0, 3), (1, 2, 0, 3)])
        for dots in (made_dots(list(SOME)), made_dots([list(row) for row in SOME])):
            self.assertIs(type(dots), list)
            self.assertTrue(all(type(dot) is tuple for dot in dots))

    def test_how_many(self):
        self.assertEqual(made_dots([]), [])
        thirty = [(number, 0, number % 3, 1) for number in range(30)]
        self.assertEqual(made_dots(thirty), thirty)
        self.refused(thirty + [(30, 0, 0, 1)])
        self.refused(thirty * 3)

    def test_coordinates(self):
        for row in [(FAR, -FAR, 0, 1), (-FAR, FAR, 0, 1)]:
            self.assertEqual(made_dots([row]), [row])
        for number in (FAR + 1, -FAR - 1, 10 ** 13, -10 ** 5000):
            self.refused([(number, 0, 0, 1)])
            self.refused([(0, number, 0, 1)])

    def test_colours(self):
        for colour in (0, 1, 2):
            self.assertEqual(made_dots([(1, 1, colour, 1)]), [(1, 1, colour, 1)])
        for colour in (-1, 3, 10 ** 20):
            self.refused([(1, 1, colour, 1)])

    def test_weights(self):
        for weight in (1, HEAVY):
            self.assertEqual(made_dots([(1, 1, 0, weight)]), [(1, 1, 0, weight)])
        for weight in (0, -1, HEAVY + 1, 10 ** 20):
            self.refused([(1, 1, 0, weight)])

    def test_lengths_of_rows(self):
        for row in [(), (1,), (1, 1, 0), (1, 1, 0, 1, 1)]:
            self.refused([row])
            self.refused([list(row)])

    def test_other_kinds_within_a_row(self):
        for index in range(4):
            for thing in [None, True, False, 1.0, "1", "a", [], [1], (), (1,), {}, object()]:
                row = [1, 1, 1, 1]
                row[index] = thing
                self.refused([row])
                self.refused([tuple(row)])

    def test_other_kinds_for_a_row(self):
        for thing in OTHER_KINDS:
            self.refused([thing])
            self.refused([(0, 0, 0, 1), thing])

    def test_other_kinds_for_the_list(self):
        for thing in OTHER_KINDS + [(), ((0, 0, 0, 1),), (0, 0, 0, 1)]:
            self.refused(thing)
        self.refused([0, 0, 0, 1])

    def test_a_wrong_row_among_good_ones(self):
        for index in range(len(SOME)):
            rows = list(SOME)
            rows[index] = (0, 0, 3, 1)
            self.refused(rows)

    def test_rows_handed_in_stay(self):
        rows = [[1, 2, 0, 3], (4, 5, 1, 6)]
        dots = made_dots(rows)
        dots.append("more")
        dots[0] = "other"
        self.assertEqual(rows, [[1, 2, 0, 3], (4, 5, 1, 6)])

    def test_what_comes_back_is_the_callers_own(self):
        rows = [[1, 2, 0, 3], (4, 5, 1, 6)]
        dots = made_dots(rows)
        rows[0][0] = 99
        rows.append((0, 0, 0, 1))
        self.assertEqual(dots, [(1, 2, 0, 3), (4, 5, 1, 6)])
        again = made_dots(dots)
        again.clear()
        self.assertEqual(dots, [(1, 2, 0, 3), (4, 5, 1, 6)])
        self.assertEqual(made_dots(dots), dots)

    def test_no_rows_come_back_fresh(self):
        rows = []
        first = made_dots(rows)
        first.append((0, 0, 0, 1))
        self.assertEqual(made_dots([]), [])
        self.assertEqual(rows, [])


class WeightsTest(unittest.TestCase):
    def test_total(self):
        self.assertEqual(total(SOME), 54321)
        self.assertEqual(total(SOME, None), 54321)
        self.assertEqual(total(SOME, 0), 301)
        self.assertEqual(total(SOME, 1), 50020)
        self.assertEqual(total(SOME, 2), 4000)
        self.assertEqual(total(SOME, colour=1), 50020)

    def test_no_dots(self):
        for colour in (None, 0, 1, 2):
            self.assertEqual(total([], colour), 0)
            self.assertEqual(weighed([], (1, 2, 3), colour), (0, 0, 0))

    def test_colour_that_no_dot_has(self):
        dots = [(0, 0, 1, 5), (1, 0, 1, 6)]
        for colour in (0, 2):
            self.assertEqual(total(dots, colour), 0)
            self.assertEqual(weighed(dots, (0, 1, 0), colour), (0, 0, 0))

    def test_weighed(self):
        self.assertEqual(weighed(SOME, (-1, 1, 0)), (4001, 50000, 320))
        self.assertEqual(weighed(SOME, (-1, 1, 0), None), (4001, 50000, 320))
        self.assertEqual(weighed(SOME, (-1, 1, 0), 0), (1, 0, 300))
        self.assertEqual(weighed(SOME, (-1, 1, 0), 1), (0, 50000, 20))
        self.assertEqual(weighed(SOME, (-1, 1, 0), 2), (4000, 0, 0))
        self.assertEqual(weighed(SOME, (1, -1, 0), colour=1), (20, 50000, 0))
        self.assertEqual(weighed(SOME, (0, 0, 1)), (320, 1, 54000))

    def test_weighed_by_level_gauges(self):
        self.assertEqual(weighed(SOME, (3, 0, 0)), (0, 0, 54321))
        self.assertEqual(weighed(SOME, (0, 0, 0)), (0, 54321, 0))
        self.assertEqual(weighed(SOME, (-1, 0, 0)), (54321, 0, 0))
        self.assertEqual(weighed(SOME, (-1, 0, 0), 1), (50020, 0, 0))

    def test_weighed_against_sides(self):
        for gauge in [(0, 1, 1), (2, -3, 1), (-4, 1, -1), (10 ** 40, -1, 5), (-2, 1, 1)]:
            for colour in (None, 0, 1, 2):
                asked = {-1: 0, 0: 0, 1: 0}
                for x, y, paint, weight in SOME:
                    if colour is None or paint == colour:
                        asked[side(gauge, place_of((x, y)))] += weight
                found = weighed(SOME, gauge, colour)
                self.assertIs(type(found), tuple)
                self.assertEqual(found, (asked[-1], asked[0], asked[1]))
                self.assertEqual(sum(found), total(SOME, colour))

    def test_somewhat_more_than_thirty_dots_are_not_refused(self):
        dots = [(number, 0, 0, HEAVY + 1) for number in range(40)]
        self.assertEqual(total(dots), 40 * (HEAVY + 1))
        self.assertEqual(weighed(dots, (-10, 1, 0)), (10 * 10 ** 9, 10 ** 9, 29 * 10 ** 9))

    def test_dots_stay_and_answers_stay(self):
        dots = list(SOME)
        before = (total(dots, 1), weighed(dots, (-1, 1, 0), 1))
        total(dots, 2)
        weighed(dots, (5, 0, 0))
        self.assertEqual((total(dots, 1), weighed(dots, (-1, 1, 0), 1)), before)
        self.assertEqual(dots, SOME)


STILL = (1, 0, 0, 1, 0, 0)
MAPS = [
    STILL,
    (0, -1, 1, 0, 0, 0),
    (1, 0, 0, 1, 5, -7),
    (3, 0, 0, 2, 0, 0),
    (-1, 0, 0, 1, 0, 0),
    (0, 1, 1, 0, 4, 4),
    (2, 3, -1, 5, 11, -13),
    (FAR, 0, 0, -FAR, FAR, -FAR),
]
NO_MAPS = OTHER_KINDS + [
    (1, 2, 2, 4, 0, 0),
    (0, 0, 0, 0, 0, 0),
    (0, 1, 0, 1, 3, 3),
    (2, 3, 4, 6, 1, 1),
    (),
    (1, 0, 0, 1, 0),
    (1, 0, 0, 1, 0, 0, 0),
    [1, 0, 0, 1, 0, 0],
    [],
    "100100",
    {1: 0, 2: 0, 3: 1, 4: 1, 5: 0, 6: 0},
    (STILL,),
]


def no_maps():
    found = list(NO_MAPS)
    for index in range(6):
        for thing in (FAR + 1, -FAR - 1, 10 ** 5000, True, False, None, 1.0, "1", (1,), [1]):
            numbers = [2, 5, 3, 4, 7, 9]
            numbers[index] = thing
            found.append(tuple(numbers))
    return found


class SentTest(unittest.TestCase):
    def test_turned_moved_stretched_mirrored(self):
        dots = [(2, 1, 0, 5), (-3, 4, 2, 6)]
        self.assertEqual(sent(dots, (0, -1, 1, 0, 0, 0)), [(-1, 2, 0, 5), (-4, -3, 2, 6)])
        self.assertEqual(sent(dots, (1, 0, 0, 1, 5, -7)), [(7, -6, 0, 5), (2, -3, 2, 6)])
        self.assertEqual(sent(dots, (3, 0, 0, 2, 0, 0)), [(6, 2, 0, 5), (-9, 8, 2, 6)])
        self.assertEqual(sent(dots, (-1, 0, 0, 1, 0, 0)), [(-2, 1, 0, 5), (3, 4, 2, 6)])
        self.assertEqual(sent(dots, (2, 3, -1, 5, 11, -13)), [(18, -10, 0, 5), (17, 10, 2, 6)])

    def test_dots_of_every_map_are_dots(self):
        for by_map in MAPS[:-1]:
            found = sent(SOME, by_map)
            self.assertEqual(made_dots(found), found)
            self.assertTrue(all(type(dot) is tuple for dot in found))

    def test_no_dots(self):
        for by_map in MAPS:
            self.assertEqual(sent([], by_map), [])

    def test_what_is_no_map(self):
        for number, by_map in enumerate(no_maps()):
            for dots in ([], SOME):
                with self.subTest(number=number, dots=dots):
                    with self.assertRaises(NoMap):
                        sent(dots, by_map)

    def test_twelve_digits_and_no_more(self):
        dots = [(FAR, -FAR, 0, 1)]
        self.assertEqual(sent(dots, (-1, 0, 0, -1, 0, 0)), [(-FAR, FAR, 0, 1)])
        self.assertEqual(sent([(1, 0, 0, 1)], (FAR, 0, 0, FAR, 0, FAR)), [(FAR, FAR, 0, 1)])
        for shift in [(1, 0), (0, -1)]:
            with self.assertRaises(NoDots):
                sent(dots, (1, 0, 0, 1) + shift)
        for shift in [(-1, 0), (0, 1)]:
            with self.assertRaises(NoDots):
                sent([(-FAR, FAR, 0, 1)], (1, 0, 0, 1) + shift)
        with self.assertRaises(NoDots):
            sent([(0, 0, 0, 1), (FAR, FAR, 0, 1)], (FAR, 0, 0, FAR, 0, 0))
        with self.assertRaises(NoDots):
            sent([(FAR // 2 + 1, 0, 0, 1), (0, 0, 0, 1)], (2, 0, 0, 1, 0, 0))

    def test_where_both_errors_fit(self):
        for by_map in [(FAR, FAR, FAR, FAR, 0, 0), (FAR + 1, 0, 0, 1, 0, 0), (True, 0, 0, 1, FAR, FAR)]:
            with self.assertRaises(NoMap):
                sent([(FAR, FAR, 0, 1)], by_map)

    def test_only_coordinates_are_looked_at(self):
        dots = [(number, 0, 0, HEAVY + 1) for number in range(40)]
        self.assertEqual(sent(dots, (1, 0, 0, 1, 1, 0)), [(number + 1, 0, 0, HEAVY + 1) for number in range(40)])

    def test_dots_handed_in_stay_and_the_answer_is_fresh(self):
        for by_map in (STILL, MAPS[1], MAPS[6]):
            dots = list(SOME)
            found = sent(dots, by_map)
            again = sent(dots, by_map)
            self.assertEqual(dots, SOME)
            self.assertIsNot(found, dots)
            self.assertIsNot(found, again)
            found.clear()
            self.assertEqual(dots, SOME)
            self.assertEqual(sent(dots, by_map), again)
        self.assertEqual(sent(SOME, STILL), SOME)
        nothing = []
        sent(nothing, STILL).append("more")
        self.assertEqual(nothing, [])

    def test_refused_dots_stay(self):
        dots = [(1, 1, 0, 1), (FAR, 0, 0, 1)]
        with self.assertRaises(NoDots):
            sent(dots, (2, 0, 0, 2, 0, 0))
        self.assertEqual(dots, [(1, 1, 0, 1), (FAR, 0, 0, 1)])


class SentPlaceTest(unittest.TestCase):
    def test_ordinary(self):
        self.assertEqual(sent_place((1, 2, 1), (0, -1, 1, 0, 0, 0)), (1, -1, 2))
        self.assertEqual(sent_place((2, 1, 3), (1, 0, 0, 1, 5, -7)), (2, 11, -11))
        self.assertEqual(sent_place((2, 1, 3), (2, 0, 0, 4, 0, 0)), (1, 1, 6))
        self.assertEqual(sent_place((6, 1, 3), (3, 0, 0, 1, 0, 0)), (2, 1, 1))
        self.assertEqual(sent_place((3, 2, -1), STILL), (3, 2, -1))
        self.assertEqual(sent_place((3, 2, -1), (-1, 0, 0, 1, 0, 0)), (3, -2, -1))

    def test_against_fractions(self):
        big = 10 ** 39 + 7
        for a, b, c, d, e, f in MAPS:
            for by, x, y in [(1, 0, 0), (2, 1, 3), (6, -1, 4), (5, 10, 3), (big, 1 - big, 2), (1, big, -big)]:
                found = sent_place((by, x, y), (a, b, c, d, e, f))
                right, up = Fraction(x, by), Fraction(y, by)
                self.assertIs(type(found), tuple)
                self.assertEqual(found, place(*found))
                self.assertEqual(Fraction(found[1], found[0]), a * right + b * up + e)
                self.assertEqual(Fraction(found[2], found[0]), c * right + d * up + f)

    def test_goes_where_the_dot_goes(self):
        for by_map in MAPS[:-1]:
            for dot, there in zip(SOME, sent(SOME, by_map)):
                self.assertEqual(sent_place(place_of(dot[:2]), by_map), place_of(there[:2]))

    def test_no_bound_for_where_it_goes(self):
        self.assertEqual(sent_place((1, FAR, 0), (FAR, 0, 0, 1, 0, 0)), (1, FAR * FAR, 0))

    def test_what_is_no_map(self):
        for number, by_map in enumerate(no_maps()):
            with self.subTest(number=number):
                with self.assertRaises(NoMap):
                    sent_place((2, 1, 3), by_map)


if __name__ == "__main__":
    unittest.main()

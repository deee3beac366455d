import unittest
from math import gcd

from halvecut.cuts import fair_pair, quartered
from halvecut.dots import sent, sent_place, total
from halvecut.errors import PlaneError, TooFew, TooMany
from halvecut.gauges import line
from halvecut.groups import three_groups, two_groups
from halvecut.middles import deepest
from halvecut.mixtures import mixture
from halvecut.papers import (
    DeepPaper,
    GroupsPaper,
    HalfPaper,
    InPaper,
    OutPaper,
    Paper,
    QuarterPaper,
    ShallowPaper,
    paper_for,
)
from halvecut.places import place_of
from helpers import FAR, HEAVY, MAPS, copied, painted, point, slow_depth, spoil, spots_of, spread, strewn

CLASSES = [HalfPaper, QuarterPaper, DeepPaper, ShallowPaper, InPaper, OutPaper, GroupsPaper]
WORDS = ["half", "quarter", "deep", "shallow", "two", "three"]

# Upright and level lines through the middle of a square, with a dot of weight 1 at each corner.
UPRIGHT = (-2, 1, 0)
ACROSS = (-2, 0, 1)
SQUARE = [(0, 0, 0, 1), (4, 0, 1, 1), (4, 4, 0, 1), (0, 4, 1, 1)]
LEVEL = [(0, 0, 0), (1, 0, 0), (-1, 0, 0)]


def reading(gauge, dot):
    return gauge[0] + gauge[1] * dot[0] + gauge[2] * dot[1]


def weight_where(dots, fits):
    return sum(dot[3] for dot in dots if fits(dot))


class PaperTest(unittest.TestCase):
    def check(self, paper, dots, asked):
        """Asked twice, with others between, the paper answers as it should, and nothing is changed."""
        given = list(dots)
        told = copied(paper.told())
        for other in ([], SQUARE, strewn(1, 9, 4, 3)):
            self.assertIs(paper.holds(dots), asked, (told, dots))
            self.assertIn(paper.holds(list(other)), (True, False))
        self.assertIs(paper.holds(dots), asked)
        self.assertEqual(dots, given)
        self.assertEqual(paper.told(), told)

    def holds(self, paper, dots):
        self.check(paper, dots, True)

    def fails(self, paper, dots):
        self.check(paper, dots, False)


class BaseTest(PaperTest):
    def test_holds_nothing_and_tells_nothing(self):
        for dots in ([], SQUARE, strewn(2, 30, 9)):
            self.fails(Paper(), dots)
        self.assertEqual(Paper().told(), ())

    def test_classes_side_by_side(self):
        for each in CLASSES:
            self.assertTrue(issubclass(each, Paper))
            for other in CLASSES:
                self.assertEqual(issubclass(each, other), each is other)
        for each in CLASSES:
            self.assertEqual(each.__bases__, (Paper,))

    def test_arguments_bear_their_names(self):
        HalfPaper(gauge=UPRIGHT, one=0, other=1)
        QuarterPaper(gauge=UPRIGHT, other=ACROSS)
        DeepPaper(place=(1, 2, 2), least=1)
        ShallowPaper(most=1, bars=[])
        InPaper(numbers=[0], shares=[1], place=(1, 0, 0))
        OutPaper(gauge=UPRIGHT, place=(1, 0, 0))
        GroupsPaper(groups=[], place=(1, 0, 0))
        paper_for(dots=SQUARE, word="two").holds(dots=SQUARE)


class HalfPaperTest(PaperTest):
    def test_holds(self):
        self.holds(HalfPaper(UPRIGHT, 0, 1), SQUARE)
        self.holds(HalfPaper(ACROSS, 1, 0), SQUARE)
        self.holds(HalfPaper(UPRIGHT, 1, 1), SQUARE)
        self.holds(HalfPaper((2, -1, 0), 0, 1), SQUARE)
        self.holds(HalfPaper((-6, 3, 0), 0, 1), SQUARE)

    def test_colours_without_dots(self):
        self.holds(HalfPaper(UPRIGHT, 2, 2), SQUARE)
        self.holds(HalfPaper((-9, 1, 0), 2, 2), SQUARE)
        self.holds(HalfPaper(UPRIGHT, 0, 1), [])

    def test_too_heavy_under_or_over(self):
        for gauge in [(-5, 1, 0), (1, 1, 0), (5, -1, 0), (-1, -1, 0), (-5, 0, 1), (-7, 1, 1), (1, 0, 1)]:
            self.fails(HalfPaper(gauge, 0, 1), SQUARE)
            self.fails(HalfPaper(gauge, 1, 1), SQUARE)

    def test_either_colour_counts(self):
        # All of colour 1 lies to the right, and colour 0 on both sides.
        dots = [(0, 0, 0, 1), (4, 0, 0, 1), (4, 4, 1, 1), (5, 4, 1, 1)]
        self.holds(HalfPaper(UPRIGHT, 0, 0), dots)
        self.holds(HalfPaper(UPRIGHT, 0, 2), dots)
        self.fails(HalfPaper(UPRIGHT, 0, 1), dots)
        self.fails(HalfPaper(UPRIGHT, 1, 0), dots)
        self.fails(HalfPaper(UPRIGHT, 2, 1), dots)
        self.fails(HalfPaper(UPRIGHT, 1, 1), dots)

    def test_half_is_not_more_than_half(self):
        dots = [(0, 0, 0, 3), (4, 0, 0, 2), (5, 0, 0, 1)]
        self.holds(HalfPaper(UPRIGHT, 0, 0), dots)
        self.fails(HalfPaper(UPRIGHT, 0, 0), [(0, 0, 0, 3), (4, 0, 0, 2)])
        self.fails(HalfPaper(UPRIGHT, 0, 0), [(0, 0, 0, 2), (4, 0, 0, 3)])
        self.holds(HalfPaper(UPRIGHT, 0, 0), [(0, 0, 0, 2), (4, 0, 0, 3), (2, 7, 0, 1)])

    def test_level_gauge(self):
        for gauge in LEVEL:
            self.fails(HalfPaper(gauge, 0, 1), SQUARE)
            self.fails(HalfPaper(gauge, 2, 2), SQUARE)
            self.fails(HalfPaper(gauge, 0, 1), [])

    def test_told(self):
        self.assertEqual(HalfPaper((-4, 2, 0), 2, 1).told(), ((-4, 2, 0), 2, 1))
        self.assertEqual(HalfPaper((0, 0, 0), 0, 0).told(), ((0, 0, 0), 0, 0))

    def test_strewn(self):
        for seed in range(40):
            dots = strewn(seed, seed % 12, 4, 1 + seed % 4)
            gauge = (seed % 7 - 3, seed % 5 - 2, seed % 3 - 1)
            asked = gauge[1:] != (0, 0)
            for colour in (seed % 3, seed % 2):
                ours = [dot for dot in dots if dot[2] == colour]
                under = weight_where(ours, lambda dot: reading(gauge, dot) < 0)
                over = weight_where(ours, lambda dot: reading(gauge, dot) > 0)
                asked = asked and 2 * under <= total(ours) and 2 * over <= total(ours)
            self.check(HalfPaper(gauge, seed % 3, seed % 2), dots, asked)


class QuarterPaperTest(PaperTest):
    def test_holds(self):
        self.holds(QuarterPaper(UPRIGHT, ACROSS), SQUARE)
        self.holds(QuarterPaper(ACROSS, UPRIGHT), SQUARE)
        self.holds(QuarterPaper((2, -1, 0), (-4, 0, 2)), SQUARE)
        self.holds(QuarterPaper(UPRIGHT, ACROSS), [])
        on_one_line = painted([(2, step) for step in range(5)])
        self.holds(QuarterPaper(UPRIGHT, UPRIGHT), on_one_line)
        self.holds(QuarterPaper(UPRIGHT, (99, 0, 1)), on_one_line)

    def test_each_quarter_counts(self):
        for number, dot in enumerate(SQUARE):
            heavier = list(SQUARE)
            heavier[number] = dot[:3] + (2,)
            self.fails(QuarterPaper(UPRIGHT, ACROSS), heavier)
            # What lies on a gauge adds to the weight of all, and to no quarter.
            self.fails(QuarterPaper(UPRIGHT, ACROSS), heavier + [(2, 9, 0, 2)])
            self.holds(QuarterPaper(UPRIGHT, ACROSS), heavier + [(2, 9, 0, 3)])
            self.holds(QuarterPaper(UPRIGHT, ACROSS), heavier + [(9, 2, 0, 3)])

    def test_level_gauges(self):
        on_both = painted([(2, 2)] * 3)
        for gauge in LEVEL:
            for dots in (SQUARE, on_both, []):
                self.fails(QuarterPaper(gauge, ACROSS), dots)
                self.fails(QuarterPaper(UPRIGHT, gauge), dots)
                self.fails(QuarterPaper(gauge, gauge), dots)

    def test_told(self):
        self.assertEqual(QuarterPaper((4, -2, 0), ACROSS).told(), ((4, -2, 0), ACROSS))


class DeepPaperTest(PaperTest):
    def test_holds_up_to_the_depth(self):
        for least in (-5, 0, 1, 2):
            self.holds(DeepPaper((1, 2, 2), least), SQUARE)
        for least in (3, 4, 5, 10 ** 59):
            self.fails(DeepPaper((1, 2, 2), least), SQUARE)
        self.holds(DeepPaper((2, 3, 3), 1), SQUARE)
        self.fails(DeepPaper((2, 3, 3), 2), SQUARE)
        self.holds(DeepPaper((1, 9, 9), 0), SQUARE)
        self.fails(DeepPaper((1, 9, 9), 1), SQUARE)

    def test_no_dots(self):
        self.holds(DeepPaper((1, 0, 0), 0), [])
        self.holds(DeepPaper((1, 0, 0), -1), [])
        self.fails(DeepPaper((1, 0, 0), 1), [])

    def test_strewn(self):
        for seed in range(20):
            dots = strewn(seed, 1 + seed % 9, 3, 1 + seed % 3)
            for where in [(1, 0, 0), (2, 1, -1), place_of(dots[0][:2])]:
                deep = slow_depth(dots, where)
                self.holds(DeepPaper(where, deep), dots)
                self.fails(DeepPaper(where, deep + 1), dots)

    def test_places_of_forty_digits(self):
        where = (10 ** 40 - 1, 2 * 10 ** 39 + 7, 10 ** 40 - 3)
        self.holds(DeepPaper(where, slow_depth(SQUARE, where)), SQUARE)
        self.fails(DeepPaper(where, slow_depth(SQUARE, where) + 1), SQUARE)

    def test_told(self):
        self.assertEqual(DeepPaper((2, 3, 3), -7).told(), ((2, 3, 3), -7))


class ShallowPaperTest(PaperTest):
    # To the right of 2 and to the left of 1 there is no common place.
    BARS = [((-2, 1, 0), 1), ((1, -1, 0), 1)]

    def test_holds(self):
        dots = painted([(0, 0), (1, 5), (2, 2), (7, 1)])
        self.holds(ShallowPaper(2, self.BARS), dots)
        self.holds(ShallowPaper(4, self.BARS), dots)
        self.holds(ShallowPaper(2, self.BARS[::-1]), dots)
        self.holds(ShallowPaper(0, self.BARS), [])
        self.holds(ShallowPaper(2, [((-4, 2, 0), 3), ((2, -2, 0), 3)]), dots)
        self.holds(ShallowPaper(2, [((-2, 1, 0), 2), ((2, -2, 0), 1)]), dots)

    def test_each_half_plane_is_heavy_enough(self):
        dots = [(0, 0, 0, 5), (2, 0, 0, 5)]
        self.holds(ShallowPaper(5, self.BARS), dots)
        self.fails(ShallowPaper(4, self.BARS), dots)
        self.fails(ShallowPaper(5, self.BARS), [(0, 0, 0, 6), (2, 0, 0, 5)])
        self.fails(ShallowPaper(5, self.BARS), [(0, 0, 0, 5), (2, 0, 0, 6)])
        self.fails(ShallowPaper(-1, self.BARS), [])
        # Dots between the two are in neither half plane.
        wide = [((-2, 1, 0), 1), ((0, -1, 0), 1)]
        self.holds(ShallowPaper(6, wide), [(0, 0, 0, 5), (1, 0, 0, 1), (2, 0, 0, 5)])
        self.fails(ShallowPaper(5, wide), [(0, 0, 0, 5), (1, 0, 0, 1), (2, 0, 0, 5)])

    def test_how_many_bars(self):
        for most in (0, 100):
            for dots in ([], painted([(3, 3)])):
                self.fails(ShallowPaper(most, []), dots)
                self.fails(ShallowPaper(most, [((-1, 0, 0), 1)]), dots)
                self.fails(ShallowPaper(most, [((-1, 1, 0), 1)]), dots)
        three = [((-1, 1, 0), 1), ((-1, 0, 1), 1), ((1, -1, -1), 1)]
        self.holds(ShallowPaper(9, three), SQUARE)
        four = [((-3, 1, 0), 1), ((1, -1, 0), 1), ((-3, 0, 1), 1), ((1, 0, -1), 1)]
        self.holds(ShallowPaper(2, four), SQUARE)
        self.fails(ShallowPaper(1, four), SQUARE)
        five = four + [((-3, 0, 1), 2)]
        self.fails(ShallowPaper(9, five), SQUARE)
        self.holds(ShallowPaper(9, five + [((2, 0, -2), 1)]), SQUARE)

    def test_level_gauges(self):
        for gauge in LEVEL:
            self.fails(ShallowPaper(99, self.BARS + [(gauge, 1)]), SQUARE)
            self.fails(ShallowPaper(99, [(gauge, 1)] + self.BARS), SQUARE)
            self.fails(ShallowPaper(99, [(gauge, 1), ((-1, 0, 0), 1)]), SQUARE)

    def test_shares(self):
        self.holds(ShallowPaper(99, [((-2, 1, 0), 10 ** 59), ((1, -1, 0), 10 ** 59)]), SQUARE)
        self.fails(ShallowPaper(99, [((-2, 1, 0), 0), ((1, -1, 0), 0)]), SQUARE)
        self.fails(ShallowPaper(99, self.BARS + [((0, 1, 0), 0)]), SQUARE)
        self.fails(ShallowPaper(99, [((2, -1, 0), -1), ((1, -1, 0), 1)]), SQUARE)
        self.fails(ShallowPaper(99, [((-2, 1, 0), 1), ((-1, 1, 0), -1)]), SQUARE)
        self.fails(ShallowPaper(99, [((-2, 1, 0), 1), ((1, -1, 0), 2)]), SQUARE)
        self.fails(ShallowPaper(99, [((-2, 1, 0), 2), ((1, -1, 0), 1)]), SQUARE)

    def test_sum(self):
        self.fails(ShallowPaper(99, [((-2, 1, 0), 1), ((2, -1, 0), 1)]), SQUARE)
        self.fails(ShallowPaper(99, [((-2, 1, 0), 1), ((3, -1, 0), 1)]), SQUARE)
        self.fails(ShallowPaper(99, [((-2, 1, 0), 1), ((1, -1, 1), 1)]), SQUARE)
        self.fails(ShallowPaper(99, [((-2, 1, 0), 1), ((1, -2, 0), 1)]), SQUARE)
        self.fails(ShallowPaper(99, [((-2, 1, 0), 1), ((1, 0, -1), 1)]), SQUARE)

    def test_no_place_is_deeper(self):
        # A paper that holds is never belied by a place.
        for seed in range(15):
            dots = strewn(seed, 1 + seed % 8, 3, 1 + seed % 3)
            for most in range(total(dots) + 1):
                for bars in (self.BARS, deepest(dots)[2], [((-1, 1, 1), 1), ((0, -1, 0), 1), ((0, 0, -1), 1)]):
                    if ShallowPaper(most, bars).holds(dots):
                        self.assertLessEqual(deepest(dots)[0], most)

    def test_kept_and_told_as_copies(self):
        dots = painted([(0, 0), (2, 2)])
        bars = list(self.BARS)
        paper = ShallowPaper(1, bars)
        bars[0] = ((-2, 1, 0), 7)
        bars.append(((1, 0, 0), 1))
        self.holds(paper, dots)
        told = paper.told()
        self.assertEqual(told, (1, self.BARS))
        self.assertIs(type(told), tuple)
        self.assertIs(type(told[1]), list)
        self.assertIs(type(told[1][0]), tuple)
        told[1].clear()
        self.holds(paper, dots)
        self.assertEqual(paper.told(), (1, self.BARS))
        self.assertIsNot(paper.told()[1], paper.told()[1])
        empty = []
        paper = ShallowPaper(1, empty)
        empty.extend(self.BARS)
        self.fails(paper, dots)
        self.assertEqual(paper.told(), (1, []))


class InPaperTest(PaperTest):
    def test_holds(self):
        self.holds(InPaper([0], [1], (1, 0, 0)), SQUARE)
        self.holds(InPaper([3], [7], (1, 0, 4)), SQUARE)
        self.holds(InPaper([0, 2], [1, 1], (1, 2, 2)), SQUARE)
        self.holds(InPaper([0, 1, 3], [2, 1, 1], (1, 1, 1)), SQUARE)
        self.holds(InPaper([0, 1, 3], [4, 2, 2], (1, 1, 1)), SQUARE)
        self.holds(InPaper([0, 1, 2, 3], [1, 1, 1, 1], (1, 2, 2)), SQUARE)
        self.holds(InPaper([0, 1], [1, 2], (3, 8, 0)), SQUARE)
        self.holds(InPaper([0, 1], [3 * 10 ** 59, 6 * 10 ** 59], (3, 8, 0)), SQUARE)

    def test_thirty_dots(self):
        dots = strewn(3, 30, FAR, HEAVY)
        shares = [number % 7 + 1 for number in range(30)]
        x = sum(share * dot[0] for share, dot in zip(shares, dots))
        y = sum(share * dot[1] for share, dot in zip(shares, dots))
        divisor = gcd(sum(shares), x, y)
        where = (sum(shares) // divisor, x // divisor, y // divisor)
        self.holds(InPaper(list(range(30)), shares, where), dots)
        self.fails(InPaper(list(range(30)), shares[::-1], where), dots)
        self.fails(InPaper(list(range(30)), shares, (1, 0, 0)), dots)

    def test_other_places(self):
        for where in [(1, 2, 1), (1, 1, 2), (2, 3, 4), (1, -2, -2), (1, 0, 0)]:
            self.fails(InPaper([0, 2], [1, 1], where), SQUARE)
        self.fails(InPaper([0, 2], [1, 2], (1, 2, 2)), SQUARE)
        self.fails(InPaper([0], [1], (1, 4, 0)), SQUARE)

    def test_other_dots(self):
        paper = InPaper([0, 2], [1, 1], (1, 2, 2))
        self.holds(paper, SQUARE[:3])
        self.fails(paper, SQUARE[:2])
        self.fails(paper, [])
        self.fails(paper, [SQUARE[1], SQUARE[0], SQUARE[2]])
        self.holds(paper, SQUARE[1:])
        self.holds(paper, [(2, 2, 0, 1), (9, 9, 1, 5), (2, 2, 2, 3)])

    def test_no_numbers(self):
        for dots in ([], SQUARE, painted([(0, 0)])):
            self.fails(InPaper([], [], (1, 0, 0)), dots)
            self.fails(InPaper([], [1], (1, 0, 0)), dots)

    def test_numbers_rise(self):
        here = painted([(2, 2)] * 4)
        self.holds(InPaper([0, 3], [1, 1], (1, 2, 2)), here)
        for numbers in ([3, 0], [0, 0], [1, 1], [0, 1, 1], [0, 2, 1], [2, 2, 3], [1, 0, 2]):
            self.fails(InPaper(numbers, [1] * len(numbers), (1, 2, 2)), here)

    def test_numbers_of_dots(self):
        here = painted([(2, 2)] * 4)
        for number in (-1, -2, -4, -5, 4, 5, 30, -10 ** 59, 10 ** 59):
            self.fails(InPaper([number], [1], (1, 2, 2)), here)
            self.fails(InPaper(sorted([0, number]), [1, 1], (1, 2, 2)), here)
            self.fails(InPaper([0, number], [1, 1], (1, 2, 2)), here)
        for number in (-1, 0, 1):
            self.fails(InPaper([number], [1], (1, 2, 2)), [])

    def test_shares(self):
        for shares in ([0, 1], [1, 0], [-1, 1], [-1, -1], [0, 0], [2, -1], [-10 ** 59, 1]):
            self.fails(InPaper([0, 1], shares, (1, 2, 2)), painted([(2, 2)] * 2))
        # Twice the one less the other is a place, but no mixture; nor is nothing of it.
        self.fails(InPaper([0, 1], [2, -1], (1, -4, 0)), SQUARE)
        self.fails(InPaper([0, 1], [1, 0], (1, 0, 0)), SQUARE)
        self.fails(InPaper([0], [-1], (1, 0, 0)), SQUARE)
        self.fails(InPaper([0], [0], (1, 0, 0)), SQUARE)

    def test_as_many_shares(self):
        here = painted([(2, 2)] * 4)
        for shares in ([], [1], [1, 1, 1], [1] * 30):
            self.fails(InPaper([0, 1], shares, (1, 2, 2)), here)
        self.fails(InPaper([0], [], (1, 2, 2)), here)
        self.fails(InPaper([0], [1, 1], (1, 2, 2)), here)

    def test_what_is_no_number(self):
        here = painted([(2, 2)] * 4)
        for thing in (True, False, None, "0", [0], (0,)):
            self.fails(InPaper([thing], [1], (1, 2, 2)), here)
            self.fails(InPaper([0, thing], [1, 1], (1, 2, 2)), here)
            self.fails(InPaper([0], [thing], (1, 2, 2)), here)
            self.fails(InPaper([0, 1], [1, thing], (1, 2, 2)), here)

    def test_kept_and_told_as_copies(self):
        numbers, shares = [0, 2], [1, 1]
        paper = InPaper(numbers, shares, (1, 2, 2))
        numbers[0] = 99
        shares.append(5)
        self.holds(paper, SQUARE)
        told = paper.told()
        self.assertEqual(told, ([0, 2], [1, 1], (1, 2, 2)))
        self.assertEqual([type(part) for part in told], [list, list, tuple])
        spoil(told)
        self.holds(paper, SQUARE)
        self.assertEqual(paper.told(), ([0, 2], [1, 1], (1, 2, 2)))
        self.assertIsNot(paper.told()[0], paper.told()[0])
        self.assertIsNot(paper.told()[1], paper.told()[1])

    def test_what_does_not_hold_is_told_as_well(self):
        self.assertEqual(InPaper([3, -1, 3], [0], (1, 5, 5)).told(), ([3, -1, 3], [0], (1, 5, 5)))

    def test_mixtures(self):
        for seed in range(20):
            dots = strewn(seed, 1 + seed % 9, 3, 2)
            for where in [(1, 0, 0), (2, 1, 1), (3, -1, 2), place_of(dots[-1][:2])]:
                found = mixture(spots_of(dots), where)
                if found[0] == "in":
                    self.holds(InPaper(found[1], found[2], where), dots)
                    self.fails(InPaper(found[1], found[2], (where[0], where[1] + where[0], where[2])), dots)
                else:
                    self.holds(OutPaper(found[1], where), dots)


class OutPaperTest(PaperTest):
    def test_holds(self):
        self.holds(OutPaper((0, 1, 0), (1, -1, 0)), SQUARE)
        self.holds(OutPaper((1, 1, 0), (2, -3, 0)), SQUARE)
        self.holds(OutPaper((8, -1, -1), (1, 5, 4)), SQUARE)
        self.holds(OutPaper((0, 1, 0), (1, -1, 0)), [])

    def test_place_is_under(self):
        self.fails(OutPaper((0, 1, 0), (1, 0, 0)), SQUARE)
        self.fails(OutPaper((0, 1, 0), (1, 1, 0)), SQUARE)
        self.fails(OutPaper((1, 1, 0), (1, -1, 0)), SQUARE)
        self.fails(OutPaper((0, 1, 0), (1, 0, 0)), [])

    def test_every_dot_is_over_or_on(self):
        self.fails(OutPaper((-1, 1, 0), (1, -1, 0)), SQUARE)
        for number, dot in enumerate(SQUARE):
            dots = painted([(9, 9)] * 4)
            dots[number] = dot
            self.fails(OutPaper((-9, 1, 0), (1, -1, 0)), dots)
        self.holds(OutPaper((-9, 1, 0), (1, -1, 0)), painted([(9, 9)] * 4))

    def test_level_gauge(self):
        # Nothing asks here for a gauge that is not level: it has all dots over or on it only if the place is, too.
        for where in [(1, 0, 0), (2, 5, 3)]:
            for gauge in LEVEL:
                self.fails(OutPaper(gauge, where), SQUARE)
            self.fails(OutPaper((0, 0, 0), where), [])
            self.fails(OutPaper((1, 0, 0), where), [])
            self.holds(OutPaper((-1, 0, 0), where), [])

    def test_told(self):
        self.assertEqual(OutPaper((2, 2, 0), (2, -3, 0)).told(), ((2, 2, 0), (2, -3, 0)))


class GroupsPaperTest(PaperTest):
    TWO = [([0, 2], [1, 1]), ([1, 3], [1, 1])]

    def test_holds(self):
        self.holds(GroupsPaper(self.TWO, (1, 2, 2)), SQUARE)
        self.holds(GroupsPaper(self.TWO[::-1], (1, 2, 2)), SQUARE)
        more = SQUARE + [(2, 2, 0, 1), (1, 1, 0, 1), (3, 2, 0, 1), (2, 3, 1, 1)]
        self.holds(GroupsPaper(self.TWO + [([4], [3])], (1, 2, 2)), more)
        self.holds(GroupsPaper(self.TWO + [([5, 6, 7], [1, 1, 1])], (1, 2, 2)), more)
        self.holds(GroupsPaper(self.TWO + [([4], [1]), ([5, 6, 7], [1, 1, 1])], (1, 2, 2)), more)
        self.holds(GroupsPaper([([0], [1]), ([1], [2])], (1, 7, 7)), painted([(7, 7)] * 2))

    def test_at_least_two_groups(self):
        for dots in ([], SQUARE):
            self.fails(GroupsPaper([], (1, 2, 2)), dots)
            self.fails(GroupsPaper(self.TWO[:1], (1, 2, 2)), dots)

    def test_no_number_in_two_groups(self):
        here = painted([(7, 7)] * 5)
        self.holds(GroupsPaper([([0], [1]), ([1, 2], [1, 1]), ([3, 4], [2, 5])], (1, 7, 7)), here)
        self.fails(GroupsPaper([([0], [1]), ([0], [1])], (1, 7, 7)), here)
        self.fails(GroupsPaper([([0, 1], [1, 1]), ([1, 2], [1, 1])], (1, 7, 7)), here)
        self.fails(GroupsPaper([([0], [1]), ([1, 2], [1, 1]), ([0, 4], [2, 5])], (1, 7, 7)), here)
        self.fails(GroupsPaper([([0], [1]), ([1, 2], [1, 1]), ([2, 4], [2, 5])], (1, 7, 7)), here)

    def test_each_group_balances(self):
        for at in (0, 1):
            for wrong in [
                ([], []), ([0], [1]), ([0, 2], [1, 2]), ([0, 2], [1]), ([0, 2], [1, 1, 1]), ([2, 0], [1, 1]),
                ([0, 0], [1, 1]), ([-4, 2], [1, 1]), ([0, 4], [1, 1]), ([0, 2], [-1, -1]), ([0, 2], [0, 0]),
                ([0, 10 ** 59], [1, 1]), ([0, True], [1, 1]), ([None], [1]), ([0, 2], ["1", "1"]), ([[0]], [1]),
            ]:
                groups = [wrong, self.TWO[1]] if at == 0 else [self.TWO[1], wrong]
                self.fails(GroupsPaper(groups, (1, 2, 2)), SQUARE)
        self.fails(GroupsPaper(self.TWO, (1, 2, 3)), SQUARE)
        self.fails(GroupsPaper([([0, 2], [1, 1]), ([1, 3], [1, 2])], (1, 2, 2)), SQUARE)

    def test_other_dots(self):
        paper = GroupsPaper(self.TWO, (1, 2, 2))
        self.fails(paper, SQUARE[:3])
        self.fails(paper, [])
        self.fails(paper, [SQUARE[1], SQUARE[0], SQUARE[2], SQUARE[3]])
        self.holds(paper, SQUARE[2:] + SQUARE[:2])
        self.holds(paper, painted([(2, 2)] * 4))

    def test_kept_and_told_as_copies(self):
        groups = copied(self.TWO)
        paper = GroupsPaper(groups, (1, 2, 2))
        groups[0][0][0] = 3
        groups[1][1].append(4)
        groups.append(([9], [9]))
        self.holds(paper, SQUARE)
        told = paper.told()
        self.assertEqual(told, (self.TWO, (1, 2, 2)))
        self.assertEqual([type(part) for part in told], [list, tuple])
        self.assertEqual([type(part) for part in told[0][0]], [list, list])
        self.assertIs(type(told[0][0]), tuple)
        spoil(told)
        self.holds(paper, SQUARE)
        self.assertEqual(paper.told(), (self.TWO, (1, 2, 2)))
        one, other = paper.told(), paper.told()
        self.assertIsNot(one[0], other[0])
        for at in (0, 1):
            self.assertIsNot(one[0][at][0], other[0][at][0])
            self.assertIsNot(one[0][at][1], other[0][at][1])


class PaperForTest(PaperTest):
    def check_for(self, dots, word, told, kind):
        given = list(dots)
        paper = paper_for(dots, word)
        self.assertEqual(dots, given)
        self.assertIs(type(paper), kind)
        self.assertEqual(paper.told(), told)
        self.holds(paper, dots)
        spoil(paper.told())
        self.assertEqual(paper_for(dots, word).told(), told)
        self.assertIsNot(paper_for(dots, word), paper)

    def line_of(self, dots, pair):
        return line(place_of(dots[pair[0]][:2]), place_of(dots[pair[1]][:2]))

    def check_all(self, dots):
        pair = fair_pair(dots, 0, 1)
        if pair is not None:
            self.check_for(dots, "half", (self.line_of(dots, pair), 0, 1), HalfPaper)
        else:
            self.refuse(dots, "half", TooFew)
        pairs = quartered(dots)
        if pairs is not None:
            lines = (self.line_of(dots, pairs[0]), self.line_of(dots, pairs[1]))
            self.check_for(dots, "quarter", lines, QuarterPaper)
        else:
            self.refuse(dots, "quarter", TooFew)
        for word, deal, least in [("two", two_groups, 4), ("three", three_groups, 7)]:
            if len(dots) >= least:
                self.check_for(dots, word, deal(spots_of(dots)), GroupsPaper)
            else:
                self.refuse(dots, word, TooFew)
        self.check_deepest(dots)

    def check_deepest(self, dots):
        if len(dots) == 0 or len(dots) > 12:
            for word in ("deep", "shallow"):
                self.refuse(dots, word, TooMany if dots else TooFew)
            return
        deep, where, bars = deepest(dots)
        self.check_for(dots, "deep", (where, deep), DeepPaper)
        self.check_for(dots, "shallow", (deep, bars), ShallowPaper)
        self.fails(DeepPaper(where, deep + 1), dots)

    def refuse(self, dots, word, error):
        with self.assertRaises(error) as caught:
            paper_for(dots, word)
        self.assertIsInstance(caught.exception, PlaneError)

    def test_by_hand(self):
        dots = painted([(0, 0), (9, 0), (0, 9), (2, 3)])
        self.check_for(dots, "deep", ((1, 2, 3), 2), DeepPaper)
        self.assertEqual(paper_for(dots, "two").told()[1], (1, 2, 3))
        self.assertEqual(paper_for(dots, "half").told(), ((0, 0, 1), 0, 1))
        self.assertEqual(paper_for(SQUARE, "quarter").told(), ((0, 0, 1), (0, 1, -1)))

    def test_no_dots(self):
        for word in WORDS:
            self.refuse([], word, TooFew)

    def test_one_spot(self):
        for count in (1, 3, 4, 7, 12, 13, 30):
            self.check_all(painted([(5, -6)] * count, 1, 3))

    def test_half_looks_at_two_colours(self):
        self.refuse([(0, 0, 0, 1), (0, 0, 1, 1), (5, 5, 2, 1)], "half", TooFew)
        self.refuse([(0, 0, 2, 1), (0, 7, 2, 1), (5, 5, 2, 1)], "half", TooFew)
        self.check_for([(0, 0, 0, 1), (5, 5, 2, 1), (3, 0, 1, 1)], "half", ((0, 0, 1), 0, 1), HalfPaper)

    def test_three_six_twelve_thirteen_dots(self):
        for count in (2, 3, 4, 6, 7, 12, 13, 30):
            for seed in range(3):
                self.check_all(strewn(seed + count, count, 6, 1 + seed * 3))
            self.check_all(strewn(count, count, FAR, HEAVY))

    def test_one_line(self):
        self.check_all([(2 * step, 3 * step, step % 3, step + 1) for step in range(9)])

    def test_what_a_paper_holds_of_other_dots(self):
        for word in WORDS:
            paper = paper_for(strewn(4, 9, 5, 3), word)
            told = copied(paper.told())
            for seed in range(10):
                self.assertIn(paper.holds(strewn(seed, seed, 5, 3)), (True, False))
            self.holds(paper, strewn(4, 9, 5, 3))
            self.assertEqual(paper.told(), told)


class SentTest(PaperTest):
    """What a paper states of dots it states, moved along, of the dots sent by a map."""

    def moved(self, gauge, by_map):
        """Reads at a place sent by the map as the gauge does at the place, times a positive number."""
        a, b, c, d, e, f = by_map
        turned = a * d - b * c
        across, upward = gauge[1] * d - gauge[2] * c, gauge[2] * a - gauge[1] * b
        found = (gauge[0] * turned - across * e - upward * f, across, upward)
        return found if turned > 0 else tuple(-number for number in found)

    def papers(self, dots, seed):
        """Papers for these dots, some of which hold: made of gauges and places near them."""
        source = spread(seed + 500, 12, 3)
        gauges = [(x + y, x, y) for x, y in source[:4]] + [paper_for(dots, "quarter").told()[0]]
        places = [place_of(spot) for spot in source[4:6]] + [place_of(dots[0][:2]), deepest(dots)[1], (2, 1, 1)]
        found = []
        for gauge in gauges:
            found += [("half", gauge, one, other) for one, other in [(0, 1), (2, 2)]]
            found += [("quarter", gauge, other) for other in gauges]
            found += [("out", gauge, where) for where in places]
        for where in places:
            found += [("deep", where, least) for least in (1, 2, 3, total(dots) // 3)]
            found += [("in", numbers, shares, where) for numbers, shares in [([0], [1]), ([0, 1], [2, 1])]]
            mixed_of = mixture(spots_of(dots), where)
            found += [("in", mixed_of[1], mixed_of[2], where)] if mixed_of[0] == "in" else [("out", mixed_of[1], where)]
            found += [("groups", deal(spots_of(dots))[0], where) for deal in (two_groups, three_groups)]
        found += [("groups",) + deal(spots_of(dots)) for deal in (two_groups, three_groups)]
        deep, where, bars = deepest(dots)
        found += [("shallow", most, bars) for most in (deep - 1, deep, deep + 1)]
        found += [("shallow", total(dots), [(gauge, 1) for gauge in gauges])]
        return found

    def made(self, word, told):
        makers = {
            "half": HalfPaper, "quarter": QuarterPaper, "deep": DeepPaper, "shallow": ShallowPaper,
            "in": InPaper, "out": OutPaper, "groups": GroupsPaper,
        }
        return makers[word](*told)

    def sent_along(self, word, told, by_map):
        def moved(gauge):
            return self.moved(gauge, by_map)

        ways = {
            "half": lambda gauge, one, other: (moved(gauge), one, other),
            "quarter": lambda gauge, other: (moved(gauge), moved(other)),
            "deep": lambda where, least: (sent_place(where, by_map), least),
            "shallow": lambda most, bars: (most, [(moved(gauge), share) for gauge, share in bars]),
            "in": lambda numbers, shares, where: (numbers, shares, sent_place(where, by_map)),
            "out": lambda gauge, where: (moved(gauge), sent_place(where, by_map)),
            "groups": lambda groups, where: (groups, sent_place(where, by_map)),
        }
        return ways[word](*told)

    def test_moved_along(self):
        seen = set()
        for seed in range(8):
            dots = strewn(seed + 40, 7 + seed % 5, 3, 1 + seed % 3)
            for word, *told in self.papers(dots, seed):
                asked = self.made(word, told).holds(dots)
                seen.add((word, asked))
                for name, by_map in MAPS.items():
                    there = self.made(word, self.sent_along(word, told, by_map))
                    self.assertIs(there.holds(sent(dots, by_map)), asked, (word, told, name))
        # Of each class there were papers that hold and papers that do not.
        self.assertEqual(len(seen), 14)

    def test_gauges_move_as_places_do(self):
        for by_map in MAPS.values():
            for gauge in [(1, 0, 0), (3, -1, 2), (0, 5, 1), (-2, 0, 1)]:
                for where in [(1, 0, 0), (2, 3, -1), (5, 1, 1), (1, -7, 4)]:
                    x, y = point(where)
                    new_x, new_y = point(sent_place(where, by_map))
                    there = self.moved(gauge, by_map)
                    factor = abs(by_map[0] * by_map[3] - by_map[1] * by_map[2])
                    here = gauge[0] + gauge[1] * x + gauge[2] * y
                    self.assertEqual(there[0] + there[1] * new_x + there[2] * new_y, factor * here)

    def test_papers_on_request(self):
        # A paper for the dots, moved along, holds for the dots sent, and theirs tells the same counts.
        for seed in range(4):
            dots = strewn(seed + 60, 8 + seed, 5, 1 + seed)
            for name, by_map in MAPS.items():
                for word in WORDS:
                    paper, there = paper_for(dots, word), paper_for(sent(dots, by_map), word)
                    if word in ("two", "three"):
                        word = "groups"
                    along = self.made(word, self.sent_along(word, paper.told(), by_map))
                    with self.subTest(seed=seed, map=name, word=word):
                        self.assertIs(along.holds(sent(dots, by_map)), True)
                        if word == "deep":
                            self.assertEqual(there.told()[1], paper.told()[1])
                        if word == "shallow":
                            self.assertEqual(there.told()[0], paper.told()[0])


if __name__ == "__main__":
    unittest.main()

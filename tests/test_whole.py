"""What the document says of the whole program: what always exists, what stays when dots are sent, whose the lists are."""

import unittest
from itertools import combinations

from halvecut.cuts import fair_pair, quartered, quarters
from halvecut.depths import depth, lightest
from halvecut.dots import made_dots, sent, sent_place, total, weighed
from halvecut.groups import three_groups, two_groups
from halvecut.hulls import hull
from halvecut.lines import halvers, lines_of
from halvecut.meets import hulls_meet
from halvecut.middles import deepest, middle, region
from halvecut.mixtures import mixture
from halvecut.papers import (
    DeepPaper,
    GroupsPaper,
    HalfPaper,
    InPaper,
    OutPaper,
    QuarterPaper,
    ShallowPaper,
    paper_for,
)
from halvecut.places import place_of
from halvecut.sheets import Sheet
from halvecut.texts import read_dots, show_dots
from helpers import MAPS, copied, painted, spoil, spots_of, spread, strewn

# Ordinary dots, close ones with many on one line or spot, all on one line, and heavy ones.
CASES = [strewn(seed, 7 + seed % 6, 9, 1 + seed % 4) for seed in range(10)]
CASES += [strewn(seed, 7 + seed % 6, 1, 1 + seed % 3) for seed in range(10, 20)]
CASES += [[(2 * step, step, step % 3, 1 + step % 2) for step in (3, 1, 4, 1, 5, 9, 2, 6)]]
CASES += [strewn(20, 12, 999999999999, 999999999)]

PLACES = [(1, 0, 0), (1, 1, 1), (2, 1, -1), (3, 2, 1), (1, 30, 4)]


def lists_in(answer):
    """All lists within an answer."""
    found = [answer] if isinstance(answer, list) else []
    if isinstance(answer, (list, tuple)):
        for part in answer:
            found += lists_in(part)
    return found


def line_of(dots, pair):
    return paper_for([dots[number][:2] + (0, 1) for number in pair], "half").told()[0]


class ThereIsAlwaysTest(unittest.TestCase):
    def test_fair_cuts(self):
        for dots in CASES:
            for one, other in [(0, 1), (1, 2), (2, 2)]:
                considered = {dot[:2] for dot in dots if dot[2] in (one, other)}
                pair = fair_pair(dots, one, other)
                self.assertEqual(pair is None, len(considered) < 2)
                if pair is not None:
                    self.assertTrue(HalfPaper(line_of(dots, pair), one, other).holds(dots))
            first, second = quartered(dots)
            self.assertTrue(QuarterPaper(line_of(dots, first), line_of(dots, second)).holds(dots))

    def test_depth(self):
        for dots in CASES:
            third = -(-total(dots) // 3)
            self.assertTrue(DeepPaper(middle(dots), third).holds(dots))
            found, where, bars = deepest(dots)
            self.assertGreaterEqual(found, third)
            self.assertTrue(DeepPaper(where, found).holds(dots))
            self.assertTrue(ShallowPaper(found, bars).holds(dots))
            self.assertFalse(ShallowPaper(found - 1, bars).holds(dots))

    def test_mixtures(self):
        for dots in CASES:
            for where in PLACES + [middle(dots)]:
                found = mixture(spots_of(dots), where)
                if found[0] == "in":
                    self.assertTrue(InPaper(found[1], found[2], where).holds(dots))
                    self.assertGreaterEqual(depth(dots, where), 1)
                else:
                    self.assertTrue(OutPaper(found[1], where).holds(dots))
                    self.assertEqual(depth(dots, where), 0)

    def test_if_every_three_hulls_meet_all_do(self):
        met = set()
        for seed in range(40):
            lists = [spread(seed * 10 + number, 3 + seed % 4, 4) for number in range(5)]
            triples = {hulls_meet(list(three))[0] for three in combinations(lists, 3)}
            asked = "meet" if triples == {"meet"} else "bar"
            self.assertEqual(hulls_meet(lists)[0], asked)
            met.add(asked)
        self.assertEqual(met, {"meet", "bar"})

    def test_groups(self):
        for dots in CASES:
            for deal in (two_groups, three_groups):
                groups, where = deal(spots_of(dots))
                self.assertTrue(GroupsPaper(groups, where).holds(dots))
                # A place in so many hulls lies as deep, if every dot weighs 1.
                self.assertGreaterEqual(depth(painted(spots_of(dots)), where), len(groups))


class SentTest(unittest.TestCase):
    def test_what_stays_and_what_moves_along(self):
        for dots in CASES[:-1:3]:
            for name, by_map in MAPS.items():
                there = sent(dots, by_map)
                with self.subTest(dots=dots, map=name):
                    self.check(dots, there, by_map)

    def check(self, dots, there, by_map):
        for one, other in [(0, 1), (0, 2), (1, 1)]:
            self.assertEqual(fair_pair(there, one, other), fair_pair(dots, one, other))
        self.assertEqual(quartered(there), quartered(dots))
        self.assertEqual(len(lines_of(there)), len(lines_of(dots)))
        self.assertEqual(halvers(there), halvers(dots))
        self.assertEqual(deepest(there)[0], deepest(dots)[0])
        for where in PLACES:
            moved = sent_place(where, by_map)
            self.assertEqual(depth(there, moved), depth(dots, where))
            found = mixture(spots_of(dots), where)
            asked = found if found[0] == "in" else "out"
            found = mixture(spots_of(there), moved)
            self.assertEqual(found if found[0] == "in" else found[0], asked)
        for least in (1, (total(dots) + 2) // 3, deepest(dots)[0]):
            moved = sorted(sent_place(corner, by_map) for corner in region(dots, least))
            self.assertEqual(sorted(region(there, least)), moved)


class WhoseListsTest(unittest.TestCase):
    """Each question twice, with the others between and every list of the first answer spoilt."""

    def questions(self, dots):
        spots = spots_of(dots)
        lists = [spots[:3], spots[2:6], spots[1:7]]
        place, gauge = (2, 1, -1), (1, 2, -3)
        return [
            lambda: made_dots(dots), lambda: total(dots), lambda: weighed(dots, gauge),
            lambda: sent(dots, (2, 1, 0, 1, 5, 5)), lambda: lines_of(dots), lambda: halvers(dots),
            lambda: fair_pair(dots, 0, 1), lambda: quartered(dots), lambda: quarters(dots, gauge, (0, 1, 0)),
            lambda: hull(spots), lambda: mixture(spots, place), lambda: mixture(spots, place_of(spots[2])),
            lambda: hulls_meet(lists), lambda: hulls_meet([spots[:1], spots[1:2]]), lambda: depth(dots, place),
            lambda: lightest(dots, place), lambda: region(dots, 1), lambda: middle(dots), lambda: deepest(dots),
            lambda: two_groups(spots), lambda: three_groups(spots), lambda: read_dots(show_dots(dots)),
            lambda: paper_for(dots, "half").told(), lambda: paper_for(dots, "quarter").told(),
            lambda: paper_for(dots, "deep").told(), lambda: paper_for(dots, "shallow").told(),
            lambda: paper_for(dots, "two").told(), lambda: paper_for(dots, "three").told(),
        ]

    def test_one_answer_and_fresh_lists(self):
        for dots in CASES[:4] + CASES[10:13]:
            given = copied(dots)
            questions = self.questions(dots)
            answers = [question() for question in questions]
            kept = copied(answers)
            others = [question() for question in self.questions(CASES[5])]
            lists = lists_in(tuple(answers)) + lists_in(tuple(others)) + [dots]
            self.assertEqual(len({id(each) for each in lists}), len(lists))
            for answer in answers + others:
                if isinstance(answer, (list, tuple)):
                    spoil(answer)
            self.assertEqual(dots, given)
            for question, asked in list(zip(questions, kept))[::-1]:
                self.assertEqual(question(), asked)

    def test_sheets_and_papers_do_not_disturb(self):
        dots = CASES[1]
        sheet = Sheet()
        for word in show_dots(dots).split(" "):
            sheet.ask("put " + word)
        rows = ["dots", "lines", "fair a b", "quarter", "depth 0:0", "middle", "deepest", "in 1:1", "two", "three"]
        before = [sheet.ask(row) for row in rows]
        for other in CASES[2:6]:
            for question in self.questions(other):
                question()
        self.assertEqual([sheet.ask(row) for row in rows], before)


if __name__ == "__main__":
    unittest.main()

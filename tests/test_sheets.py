import unittest

from halvecut.cuts import fair_pair, quartered
from halvecut.depths import depth
from halvecut.dots import sent
from halvecut.errors import NoAsk, NoDots, NoMap, NoSuch, NoText, PlaneError, TooFew, TooMany
from halvecut.groups import three_groups, two_groups
from halvecut.lines import halvers, lines_of
from halvecut.middles import deepest, middle
from halvecut.mixtures import mixture
from halvecut.sheets import Sheet
from halvecut.texts import read_dots, show_dots, show_place
from helpers import FAR, HEAVY, MAPS, painted, spots_of, strewn

# A right row for each deed and question; all of them can be done and answered for twelve dots or fewer, from seven on.
ROWS = [
    "put a1:2", "cut 0", "map 1 0 0 1 0 0", "clear", "back", "dots", "lines", "fair a b", "quarter", "depth 2@1:0",
    "middle", "deepest", "in 0:0", "two", "three",
]
DEEDS = ROWS[:5]
QUESTIONS = ROWS[5:]


def sheet_of(dots):
    sheet = Sheet()
    for dot in dots:
        sheet.ask("put " + show_dots([dot]))
    return sheet


class SheetTest(unittest.TestCase):
    def stands(self, sheet, dots):
        """The sheet has these dots."""
        self.assertEqual(sheet.ask("dots"), show_dots(dots))

    def told(self, sheet, row, asked):
        found = sheet.ask(row)
        self.assertIs(type(found), str)
        self.assertEqual(found, asked, row)

    def refuse(self, sheet, row, error):
        before = sheet.ask("dots")
        with self.subTest(row=row):
            with self.assertRaises(error) as caught:
                sheet.ask(row)
            self.assertIs(type(caught.exception), error)
            self.assertIsInstance(caught.exception, PlaneError)
        self.assertEqual(sheet.ask("dots"), before)


class DeedsTest(SheetTest):
    def test_put(self):
        sheet = Sheet()
        self.stands(sheet, [])
        self.told(sheet, "put a0:0", "1")
        self.told(sheet, "put b3:-4w12", "2")
        self.told(sheet, f"put c{FAR}:-{FAR}w{HEAVY}", "3")
        self.told(sheet, "put a0:0", "4")
        self.stands(sheet, [(0, 0, 0, 1), (3, -4, 1, 12), (FAR, -FAR, 2, HEAVY), (0, 0, 0, 1)])

    def test_thirty_dots(self):
        sheet = Sheet()
        for number in range(30):
            self.told(sheet, f"put c{number}:1", str(number + 1))
        self.refuse(sheet, "put a0:0", NoDots)
        self.refuse(sheet, "put a0:0w1", NoText)
        self.refuse(sheet, "put a0:0 ", NoAsk)
        self.told(sheet, "cut 29", "29")
        self.told(sheet, "put a0:0", "30")
        self.refuse(sheet, "put a0:0", NoDots)
        self.stands(sheet, painted([(number, 1) for number in range(29)], 2) + [(0, 0, 0, 1)])

    def test_cut(self):
        dots = strewn(1, 5, 9, 3)
        for number in range(5):
            sheet = sheet_of(dots)
            self.told(sheet, f"cut {number}", "4")
            self.stands(sheet, dots[:number] + dots[number + 1:])
        sheet = sheet_of(dots)
        self.told(sheet, "cut 1", "4")
        self.told(sheet, "cut 1", "3")
        self.stands(sheet, dots[:1] + dots[3:])
        self.told(sheet, "cut 2", "2")
        self.told(sheet, "cut 0", "1")
        self.told(sheet, "cut 0", "0")
        self.stands(sheet, [])

    def test_cut_of_no_dot(self):
        self.refuse(Sheet(), "cut 0", NoSuch)
        sheet = sheet_of(strewn(1, 5, 9))
        for number in (-1, -4, -5, -6, -99, 5, 6, 10, 30, 99):
            self.refuse(sheet, f"cut {number}", NoSuch)
            self.refuse(Sheet(), f"cut {number}", NoSuch)

    def test_numbers_of_dots_are_read_strictly(self):
        sheet = sheet_of(strewn(1, 12, 9))
        for word in ["100", "-100", "999", "+1", "01", "-01", "-0", "00", "1.0", "x", "", "1_1", "\u0661", "1\n", "\t1", "--1", "a1:1"]:
            self.refuse(sheet, f"cut {word}", NoText)
        self.told(sheet, "cut 10", "11")

    def test_map(self):
        dots = strewn(2, 6, 9, 3)
        for by_map in MAPS.values():
            sheet = sheet_of(dots)
            self.told(sheet, "map " + " ".join(str(number) for number in by_map), "6")
            self.stands(sheet, sent(dots, by_map))
        self.told(Sheet(), "map 2 0 0 2 1 1", "0")

    def test_map_refused(self):
        for dots in ([], strewn(2, 6, 9, 3)):
            sheet = sheet_of(dots)
            for words in ["0 0 0 0 0 0", "1 2 2 4 0 0", "1 1 1 1 5 5", "0 0 0 1 0 0", f"{FAR} {FAR} {FAR} {FAR} 0 0"]:
                self.refuse(sheet, "map " + words, NoMap)
        sheet = sheet_of([(0, 0, 0, 1), (3, -4, 1, 1)])
        self.refuse(sheet, f"map 1 0 0 1 {FAR} 0", NoDots)
        self.refuse(sheet, f"map 1 0 0 1 0 -{FAR}", NoDots)
        self.refuse(sheet, f"map {FAR} 0 0 1 0 0", NoDots)
        self.told(sheet, f"map 1 0 0 1 {FAR - 3} {4 - FAR}", "2")
        self.stands(sheet, [(FAR - 3, 4 - FAR, 0, 1), (FAR, -FAR, 1, 1)])
        self.told(Sheet(), f"map {FAR} 0 0 1 {FAR} 0", "0")

    def test_map_entries_are_read_strictly(self):
        sheet = sheet_of(strewn(2, 6, 9, 3))
        for at in range(6):
            for word in ["1" + "0" * 12, "-1" + "0" * 12, "+1", "01", "-0", "", "x", "1.0", "1_0", "\u0661", "1\n", "a0:0", "1:0"]:
                # All others make a flat map, which is looked at later.
                words = ["0"] * 6
                words[at] = word
                self.refuse(sheet, "map " + " ".join(words), NoText)

    def test_clear(self):
        sheet = sheet_of(strewn(3, 4, 9))
        self.told(sheet, "clear", "0")
        self.stands(sheet, [])
        self.told(sheet, "clear", "0")
        self.told(Sheet(), "clear", "0")
        self.told(sheet, "put a1:1", "1")
        self.stands(sheet, [(1, 1, 0, 1)])


class BackTest(SheetTest):
    def test_nothing_to_undo(self):
        self.refuse(Sheet(), "back", TooFew)
        sheet = sheet_of([(0, 0, 0, 1)])
        self.told(sheet, "back", "0")
        self.refuse(sheet, "back", TooFew)
        self.refuse(sheet, "back", TooFew)

    def test_back_over_each_deed(self):
        dots = strewn(4, 5, 9, 3)
        for deed, count in [("put b1:1", 6), ("cut 2", 4), ("map 0 -1 1 0 2 2", 5), ("clear", 0)]:
            sheet = sheet_of(dots)
            self.told(sheet, deed, str(count))
            self.assertNotEqual(sheet.ask("dots"), show_dots(dots))
            self.told(sheet, "back", "5")
            self.stands(sheet, dots)
            self.told(sheet, "back", "4")
            self.stands(sheet, dots[:4])

    def test_deeds_that_change_nothing_are_remembered(self):
        sheet = Sheet()
        self.told(sheet, "clear", "0")
        self.told(sheet, "map 1 0 0 1 0 0", "0")
        self.told(sheet, "back", "0")
        self.told(sheet, "back", "0")
        self.refuse(sheet, "back", TooFew)
        sheet = sheet_of([(1, 1, 0, 1)])
        self.told(sheet, "map 1 0 0 1 0 0", "1")
        self.told(sheet, "back", "1")
        self.told(sheet, "back", "0")
        self.refuse(sheet, "back", TooFew)

    def test_twenty_deeds(self):
        for count in (19, 20, 21, 25):
            dots = strewn(5, count, 9)
            sheet = sheet_of(dots)
            for undone in range(1, min(count, 20) + 1):
                self.told(sheet, "back", str(count - undone))
                self.stands(sheet, dots[:count - undone])
            self.refuse(sheet, "back", TooFew)
            self.stands(sheet, dots[:max(count - 20, 0)])

    def test_deeds_after_back(self):
        dots = strewn(6, 30, 9)
        sheet = sheet_of(dots[:10])
        for number in range(4):
            sheet.ask("back")
        self.told(sheet, "put c9:9", "7")
        self.told(sheet, "back", "6")
        self.stands(sheet, dots[:6])
        self.told(sheet, "back", "5")
        self.stands(sheet, dots[:5])

    def undo_and_go_on(self, done, undone, more, left):
        """Of so many dots put, some are taken back and more put; then so many deeds can be undone."""
        dots = strewn(7, done, 9)
        sheet = sheet_of(dots)
        for number in range(undone):
            sheet.ask("back")
        for number in range(more):
            sheet.ask("put a0:0")
        for number in range(left):
            self.told(sheet, "back", str(done - undone + more - number - 1))
        self.refuse(sheet, "back", TooFew)
        self.stands(sheet, dots[:done - undone + more - left])

    def test_what_was_forgotten_stays_forgotten(self):
        # Of 25 deeds five are forgotten; ten are undone and seven more done, which leaves seventeen.
        self.undo_and_go_on(25, 10, 7, 17)
        self.undo_and_go_on(25, 20, 3, 3)

    def test_older_deeds_are_forgotten_after_back(self):
        # Five of twenty are undone and ten more done: of these 25 the latest twenty are left.
        self.undo_and_go_on(20, 5, 10, 20)
        self.undo_and_go_on(20, 5, 5, 20)

    def test_refused_deeds_are_not_remembered(self):
        sheet = sheet_of([(0, 0, 0, 1), (3, 4, 1, 1)])
        for row, error in [
            ("cut 2", NoSuch), ("map 0 0 0 0 0 0", NoMap), (f"map 1 0 0 1 {FAR} 0", NoDots), ("put x", NoText),
            ("put", NoAsk), (None, NoAsk), ("cut x", NoText), ("clear 1", NoAsk), ("deepest ", NoAsk),
        ]:
            self.refuse(sheet, row, error)
        self.told(sheet, "back", "1")
        self.stands(sheet, [(0, 0, 0, 1)])
        full = sheet_of(strewn(9, 30, 9))
        for number in range(25):
            self.refuse(full, "put a0:0", NoDots)
        self.told(full, "back", "29")

    def test_refused_back_changes_nothing(self):
        sheet = Sheet()
        self.refuse(sheet, "back", TooFew)
        self.refuse(sheet, "back", TooFew)
        self.told(sheet, "put a0:0", "1")
        self.told(sheet, "back", "0")
        self.refuse(sheet, "back", TooFew)

    def test_questions_are_not_remembered(self):
        dots = strewn(10, 8, 9)
        sheet = sheet_of(dots)
        for number in range(3):
            for row in QUESTIONS:
                sheet.ask(row)
        self.refuse(sheet, "in x", NoText)
        self.told(sheet, "back", "7")
        self.stands(sheet, dots[:7])
        empty = Sheet()
        self.refuse(empty, "middle", TooFew)
        self.refuse(empty, "back", TooFew)


class RowsTest(SheetTest):
    def test_all_rows_are_right(self):
        for row in ROWS:
            self.assertIs(type(sheet_of(strewn(11, 9, 5, 2)).ask(row)), str)

    def test_one_word_more_or_less(self):
        for sheet in (Sheet(), sheet_of(strewn(11, 9, 5, 2))):
            for row in ROWS:
                self.refuse(sheet, row + " 1", NoAsk)
                self.refuse(sheet, row + " ", NoAsk)
                self.refuse(sheet, " " + row, NoAsk)
                self.refuse(sheet, row.replace(" ", "  ", 1) + " " * (" " not in row), NoAsk)
                self.refuse(sheet, row + " " + row, NoAsk)
                if " " in row:
                    self.refuse(sheet, row.rpartition(" ")[0], NoAsk)
                    self.refuse(sheet, row.partition(" ")[0], NoAsk)

    def test_empty_words(self):
        sheet = sheet_of(strewn(11, 9, 5, 2))
        for row in ROWS:
            words = row.split(" ")
            for at in range(len(words)):
                emptied = words[:at] + [""] + words[at + 1:]
                self.refuse(sheet, " ".join(emptied), NoText if at > 0 else NoAsk)

    def test_upper_case(self):
        sheet = sheet_of(strewn(11, 9, 5, 2))
        for row in ROWS:
            self.refuse(sheet, row.upper(), NoAsk)
            self.refuse(sheet, row.capitalize(), NoAsk)
        self.refuse(sheet, "put A1:1", NoText)
        self.refuse(sheet, "put a1:1W2", NoText)
        self.refuse(sheet, "fair A b", NoText)
        self.refuse(sheet, "fair a B", NoText)

    def test_argument_bears_its_name(self):
        self.assertEqual(Sheet().ask(row="put a1:1"), "1")

    def test_other_words(self):
        sheet = sheet_of(strewn(11, 9, 5, 2))
        for row in ["", " ", "  ", "\n", "what", "a0:0", "putt a0:0", "pu t", "depths 0:0", "out", "half", "deep", "none", "0", "help"]:
            self.refuse(sheet, row, NoAsk)
        for row in ["dots\n", "\tdots", "put\ta0:0", "fair\ta b", "in\n0:0", "clear\n", "\u00a0dots", "back\x00", "dots\r"]:
            self.refuse(sheet, row, NoAsk)

    def test_no_text(self):
        for sheet in (Sheet(), sheet_of(strewn(11, 9, 5, 2))):
            for thing in (None, 0, 3, True, ["dots"], ("dots",), b"dots", {}, {"dots": 1}, [], object(), 1.5):
                self.refuse(sheet, thing, NoAsk)

    def test_order_of_errors(self):
        empty, full = Sheet(), sheet_of(strewn(12, 30, 9, 2))
        # The count of words comes ahead of what they read as, and that ahead of the deed or question.
        for row in ["put x y", "cut x y", "map x 0 0 0 0", "map 0 0 0 0 0 x 0", "fair x", "fair x y z", "depth x y", "in x y"]:
            self.refuse(empty, row, NoAsk)
            self.refuse(full, row, NoAsk)
        for row in ["put x", "cut x", "map 0 0 0 0 0 x", "fair a x", "fair x a", "depth x", "in x", "in 2@2:2", "cut 100"]:
            self.refuse(empty, row, NoText)
            self.refuse(full, row, NoText)
        for row, error in [("cut 30", NoSuch), ("map 0 0 0 0 0 0", NoMap), ("put a0:0", NoDots), ("deepest", TooMany)]:
            self.refuse(full, row, error)
        self.refuse(full, f"map 0 0 0 0 {FAR} 0", NoMap)
        for row in ["middle", "deepest", "in 0:0", "two", "three", "back"]:
            self.refuse(empty, row, TooFew)

    def test_leftmost_word(self):
        # Each word that does not read is refused in words of its own, so the leftmost one can be told.
        sheet = Sheet()
        for first, second in [("x", "1" + "0" * 12), ("1" + "0" * 12, "x"), ("01", "x"), ("x", "01")]:
            alone = self.words_of(sheet, f"map {first} 0 0 0 0 0")
            self.assertEqual(self.words_of(sheet, f"map {first} {second} 0 0 0 0"), alone)
            self.assertEqual(self.words_of(sheet, f"map 0 0 {first} 0 0 {second}"), alone)

    def words_of(self, sheet, row):
        with self.assertRaises(NoText) as caught:
            sheet.ask(row)
        return str(caught.exception)


class QuestionsTest(SheetTest):
    def ask_or_error(self, question):
        """What a question is answered, or the class of its error."""
        try:
            return question()
        except PlaneError as error:
            return type(error)

    def pair_text(self, pairs):
        if pairs is None:
            return "none"
        return " ".join(str(number) for pair in pairs for number in pair)

    def check(self, dots):
        sheet = sheet_of(dots)
        spots = spots_of(dots)
        self.told(sheet, "dots", show_dots(dots))
        self.assertEqual(read_dots(sheet.ask("dots")), dots)
        self.told(sheet, "lines", f"{len(lines_of(dots))} {halvers(dots)}")
        for one, first in enumerate("abc"):
            for other, second in enumerate("abc"):
                pair = fair_pair(dots, one, other)
                self.told(sheet, f"fair {first} {second}", self.pair_text(None if pair is None else [pair]))
        self.told(sheet, "quarter", self.pair_text(quartered(dots)))
        for where in [(1, 0, 0), (2, 1, -1), (3, 1, 4), (1, FAR, FAR), (10 ** 40 - 1, 1, 7)]:
            self.told(sheet, f"depth {show_place(where)}", str(depth(dots, where)))
            self.check_in(sheet, spots, where)
        for dot in dots:
            self.check_in(sheet, spots, (1, dot[0], dot[1]))
        for row, question in [
            ("middle", lambda: show_place(middle(dots))),
            ("deepest", lambda: str(deepest(dots)[0]) + " " + show_place(deepest(dots)[1])),
            ("two", lambda: show_place(two_groups(spots)[1])),
            ("three", lambda: show_place(three_groups(spots)[1])),
        ]:
            asked = self.ask_or_error(question)
            self.assertEqual(self.ask_or_error(lambda: sheet.ask(row)), asked, (row, dots))
        self.stands(sheet, dots)

    def check_in(self, sheet, spots, where):
        row = f"in {show_place(where)}"
        if len(spots) == 0:
            self.refuse(sheet, row, TooFew)
            return
        found = mixture(spots, where)
        asked = "out"
        if found[0] == "in":
            asked = " ".join(["in"] + [str(number) for number in found[1]])
        self.told(sheet, row, asked)

    def test_by_hand(self):
        sheet = Sheet()
        for word in ["a0:0", "b4:0", "a4:4", "b0:4", "c2:1w3"]:
            sheet.ask("put " + word)
        self.told(sheet, "dots", "a0:0 b4:0 a4:4 b0:4 c2:1w3")
        self.told(sheet, "lines", "10 4")
        self.told(sheet, "fair a b", "0 1")
        self.told(sheet, "fair c c", "none")
        self.told(sheet, "fair c a", "0 4")
        self.told(sheet, "depth 2:1", "4")
        self.told(sheet, "depth 9:9", "0")
        self.told(sheet, "in 2:1", "in 4")
        self.told(sheet, "in 2:0", "in 0 1")
        self.told(sheet, "in 2@5:5", "in 0 2")
        self.told(sheet, "in 2@7:3", "in 0 1 2")
        self.told(sheet, "in 5:5", "out")
        self.told(sheet, "deepest", "4 2:1")
        self.told(sheet, "middle", "2:1")
        self.told(sheet, "two", "2:2")
        self.told(sheet, "cut 4", "4")
        self.told(sheet, "deepest", "2 2:2")
        self.told(sheet, "quarter", "0 1 0 2")
        self.told(sheet, "map 1 0 0 1 1 0", "4")
        self.told(sheet, "map 3 1 0 1 0 0", "4")
        self.told(sheet, "dots", "a3:0 b15:0 a19:4 b7:4")
        self.told(sheet, "two", "11:2")

    def test_places_with_a_by(self):
        sheet = sheet_of(painted([(0, 0), (3, 1), (0, 1), (3, 0)]))
        self.told(sheet, "deepest", "2 2@3:1")
        self.told(sheet, "middle", "2@3:1")
        self.told(sheet, "two", "2@3:1")
        self.told(sheet, "depth 2@3:1", "2")
        self.told(sheet, "in 2@3:1", "in 0 1")

    def test_no_dots(self):
        sheet = Sheet()
        self.told(sheet, "dots", "")
        self.told(sheet, "lines", "0 0")
        self.told(sheet, "fair a b", "none")
        self.told(sheet, "fair c c", "none")
        self.told(sheet, "quarter", "none")
        self.told(sheet, "depth 0:0", "0")
        self.check([])

    def test_one_dot_and_one_spot(self):
        self.check([(3, -4, 1, 5)])
        for count in (2, 3, 6, 7, 12, 13, 30):
            self.check(painted([(3, -4)] * count, 2, 7))
        sheet = sheet_of(painted([(3, -4)] * 3))
        self.told(sheet, "lines", "0 0")
        self.told(sheet, "quarter", "none")
        self.told(sheet, "fair a a", "none")

    def test_counts_of_dots(self):
        for count in (2, 3, 4, 6, 7, 12, 13, 30):
            self.check(strewn(count, count, 5, 3))
        for seed in range(6):
            self.check(strewn(seed + 20, 4 + seed, 3, 1 + seed))
        self.check(strewn(13, 12, FAR, HEAVY))

    def test_after_deeds(self):
        dots = strewn(14, 10, 5, 3)
        sheet = sheet_of(dots)
        sheet.ask("map 0 -1 1 0 3 3")
        sheet.ask("cut 4")
        sheet.ask("put b9:9w4")
        sheet.ask("back")
        there = sent(dots, (0, -1, 1, 0, 3, 3))
        there = there[:4] + there[5:]
        fresh = sheet_of(there)
        for row in QUESTIONS:
            self.assertEqual(sheet.ask(row), fresh.ask(row))

    def test_asked_again(self):
        sheet = sheet_of(strewn(15, 9, 5, 3))
        before = [sheet.ask(row) for row in QUESTIONS]
        self.assertEqual([sheet.ask(row) for row in QUESTIONS[::-1]], before[::-1])
        sheet.ask("clear")
        sheet.ask("back")
        self.assertEqual([sheet.ask(row) for row in QUESTIONS], before)

    def test_letters(self):
        sheet = sheet_of(strewn(15, 9, 5, 3))
        for word in ["d", "A", "ab", "abc", "bc", "0", "", "a0:0", "\u0430"]:
            self.refuse(sheet, f"fair {word} a", NoText)
            self.refuse(sheet, f"fair a {word}", NoText)

    def test_places_are_read_strictly(self):
        sheet = sheet_of(strewn(15, 9, 5, 3))
        for word in ["1@0:0", "2@0:0", "0@1:1", "-1@1:1", "@1:1", "1:01", "+1:1", "1", "", "-0:0", "1" * 41 + ":0", "a1:1"]:
            for empty_or_not in (sheet, Sheet()):
                self.refuse(empty_or_not, f"depth {word}", NoText)
                self.refuse(empty_or_not, f"in {word}", NoText)


class SideBySideTest(SheetTest):
    def test_two_sheets(self):
        one, other = Sheet(), Sheet()
        self.told(one, "put a0:0", "1")
        self.told(one, "put a5:0", "2")
        self.told(other, "put b7:7", "1")
        self.refuse(Sheet(), "back", TooFew)
        self.told(one, "dots", "a0:0 a5:0")
        self.told(other, "dots", "b7:7")
        self.told(other, "clear", "0")
        self.told(one, "dots", "a0:0 a5:0")
        self.told(one, "back", "1")
        self.told(other, "back", "1")
        self.told(other, "dots", "b7:7")
        self.told(other, "back", "0")
        self.refuse(other, "back", TooFew)
        self.told(one, "dots", "a0:0")
        self.told(Sheet(), "dots", "")

    def test_counts_and_depths_stay_when_sent(self):
        for seed in range(4):
            sheet = sheet_of(strewn(seed + 30, 7 + seed, 5, 1 + seed))
            before = [sheet.ask(row) for row in ("lines", "fair a b", "fair b c", "quarter")]
            deep = sheet.ask("deepest").split(" ")[0]
            for name, by_map in MAPS.items():
                sheet.ask("map " + " ".join(str(number) for number in by_map))
                with self.subTest(seed=seed, map=name):
                    self.assertEqual([sheet.ask(row) for row in ("lines", "fair a b", "fair b c", "quarter")], before)
                    self.assertEqual(sheet.ask("deepest").split(" ")[0], deep)
                sheet.ask("back")


if __name__ == "__main__":
    unittest.main()

import unittest

from halvecut.dots import made_dots
from halvecut.errors import NoDots, NoText, PlaneError
from halvecut.middles import deepest
from halvecut.places import mixed, place_of
from halvecut.texts import read_dots, read_place, show_dots, show_place
from helpers import FAR, HEAVY, painted, strewn

NO_TEXTS = [None, 3, 0, True, ["a0:0"], ("a0:0",), [], {}, b"a0:0", b"", 1.5, object()]

# Digits of other scripts, a wide colon and other signs that look like the ones to be used.
STRANGE = ["a\u0663:4", "a3:\u0664", "a3:\uff14", "a3:\u00b2", "a3\uff1a4", "\u0430" + "3:4", "a3:\u22124", "\u00e43:4"]
STRANGE_PLACES = ["\u0663:4", "3:\u0664", "3:\uff14", "3:\u00b2", "3\uff1a4", "2\uff203:4", "3:\u22124", "\u0662@3:4"]


class TextsTest(unittest.TestCase):
    def refuse(self, read, text, error=NoText):
        with self.subTest(text=text):
            with self.assertRaises(error) as caught:
                read(text)
            self.assertIsInstance(caught.exception, PlaneError)
            self.assertIs(type(caught.exception), error)


class DotsTest(TextsTest):
    def check(self, dots, text):
        given = list(dots)
        self.assertEqual(show_dots(dots), text)
        self.assertIs(type(show_dots(dots)), str)
        self.assertEqual(dots, given)
        self.read(text, dots)

    def read(self, text, dots):
        found = read_dots(text)
        self.assertEqual(found, dots)
        self.assertIs(type(found), list)
        for dot in found:
            self.assertIs(type(dot), tuple)
            self.assertEqual([type(number) for number in dot], [int] * 4)
        self.assertEqual(made_dots(found), found)
        self.assertEqual(show_dots(found), text)
        found.append("other")
        self.assertEqual(read_dots(text), dots)

    def test_ordinary(self):
        self.check([(3, -4, 1, 1)], "b3:-4")
        self.check([(0, 7, 2, 12)], "c0:7w12")
        self.check([(3, -4, 1, 1), (0, 7, 2, 12)], "b3:-4 c0:7w12")
        self.check([(0, 0, 0, 2), (0, 0, 0, 2), (-10, 100, 2, 1)], "a0:0w2 a0:0w2 c-10:100")

    def test_no_dots(self):
        self.check([], "")

    def test_colours(self):
        for colour, letter in enumerate("abc"):
            self.check([(1, 2, colour, 3)], letter + "1:2w3")
        for letter in ["d", "A", "B", "C", "w", "`", "0", "-", ":", "ab", "aa", "abc", "bc", ""]:
            self.refuse(read_dots, letter + "1:2")

    def test_weights(self):
        self.check([(1, 2, 0, 1)], "a1:2")
        self.check([(1, 2, 0, 2)], "a1:2w2")
        self.check([(1, 2, 0, HEAVY)], "a1:2w999999999")
        for weight in ["1", "0", "-1", "-2", "1000000000", "9999999999", "02", "+2", "-0", "", "2w", "2w2", "w2", "x", "2.0"]:
            self.refuse(read_dots, "a1:2w" + weight)
        self.refuse(read_dots, "a1:2W3")
        self.refuse(read_dots, "a1w2:3")
        self.refuse(read_dots, "aw2")
        self.refuse(read_dots, "w2")

    def test_coordinates(self):
        for number in (0, 1, -1, 9, 10, -10, 99999999999, FAR, -FAR):
            self.check([(number, 5, 0, 1)], f"a{number}:5")
            self.check([(5, number, 0, 1)], f"a5:{number}")
            self.check([(number, number, 2, 7)], f"c{number}:{number}w7")
        for word in [
            "1000000000000", "-1000000000000", "9999999999999", "0000000000001", "1" * 40, "1" * 5000, "-" + "1" * 5000,
            "-0", "+0", "+3", "03", "-03", "00", "--3", "- 3", "3-", "-", "+", "", "3.0", "3e2", "1_0", "0x3", "_3", "3_",
            "\t3", "3\t", "3\n", "\n3", "\r3", "3\u00a0", "three", "None", "3,4", "(3", "0b1",
        ]:
            self.refuse(read_dots, f"a{word}:5")
            self.refuse(read_dots, f"a5:{word}")
            self.refuse(read_dots, f"a5:{word}w2")

    def test_colons(self):
        for word in ["a", "a3", "a34", "a3::4", "a3:4:5", "a:3:4", "a3;4", "3:4", ":", "a:", "a:4", "a3:", "2@3:4", "a2@3:4"]:
            self.refuse(read_dots, word)

    def test_blanks(self):
        for text in [
            " ", "  ", " a0:0", "a0:0 ", "a0:0  b1:1", "a0:0 b1:1 ", " a0:0 b1:1", "a 0:0", "a0 :0", "a0: 0", "a0:0 w2",
            "a0:0w 2", "a0:0\tb1:1", "a0:0\nb1:1", "a0:0\n", "\n", "\t", "a0:0\u00a0b1:1", "a0:0,b1:1", "a0:0b1:1",
            "a0:0 \nb1:1", "\x00", "a0:0\x00", "a0:0\x1f", "\ufeffa0:0",
        ]:
            self.refuse(read_dots, text)

    def test_other_scripts(self):
        for text in STRANGE:
            self.refuse(read_dots, text)
            self.refuse(read_dots, "a0:0 " + text)

    def test_no_text(self):
        for thing in NO_TEXTS:
            self.refuse(read_dots, thing)

    def test_thirty_dots(self):
        for seed, reach, heaviest in [(1, 9, 1), (2, 9, 4), (3, FAR, HEAVY)]:
            dots = strewn(seed, 30, reach, heaviest)
            self.read(show_dots(dots), dots)
            self.assertEqual(show_dots(dots).count(" "), 29)

    def test_more_than_thirty_dots(self):
        for count in (31, 32, 60):
            text = " ".join(["b3:-4w2"] * count)
            self.refuse(read_dots, text, NoDots)
            for at in (0, 15, 30):
                for wrong in ("", "b3", "b3:-4w1", "B3:-4", "b3:-04"):
                    words = ["b3:-4w2"] * count
                    words[at] = wrong
                    self.refuse(read_dots, " ".join(words), NoText)
        self.refuse(read_dots, " ".join(["b3:-4w2"] * 31) + " ", NoText)

    def test_each_word_counts(self):
        for at in range(3):
            words = ["a0:0", "b1:1w5", "c-3:2"]
            words[at] = "d0:0"
            self.refuse(read_dots, " ".join(words))

    def test_strewn_dots(self):
        for seed in range(30):
            dots = strewn(seed, seed, 1 + seed % 4 * 100, 1 + seed % 3)
            self.read(show_dots(dots), dots)


class PlacesTest(TextsTest):
    def check(self, where, text):
        self.assertEqual(show_place(where), text)
        self.assertIs(type(show_place(where)), str)
        found = read_place(text)
        self.assertEqual(found, where)
        self.assertIs(type(found), tuple)
        self.assertEqual([type(number) for number in found], [int] * 3)

    def test_ordinary(self):
        self.check((2, -1, 6), "2@-1:6")
        self.check((1, 3, 0), "3:0")
        self.check((1, 0, 0), "0:0")
        self.check((1, -3, -4), "-3:-4")
        self.check((7, 0, 1), "7@0:1")
        self.check((6, 2, 3), "6@2:3")
        self.check((10, 5, 4), "10@5:4")

    def test_lowest_terms(self):
        for text in ["2@2:4", "3@0:0", "2@0:0", "6@3:9", "4@-2:6", "5@-5:5", "10@0:4", "2@-2:0"]:
            self.refuse(read_place, text)
        self.check((4, 2, 3), "4@2:3")
        self.check((4, 3, 2), "4@3:2")

    def test_by(self):
        for by in ["1", "0", "-1", "-2", "+2", "02", "-0", "", " 2", "2 ", "2@2", "@", "x", "2.0", "1_1", "a", "2:3"]:
            self.refuse(read_place, by + "@3:5")
            self.refuse(read_place, by + "@3:4")

    def test_coordinates(self):
        for word in [
            "-0", "+0", "+3", "03", "-03", "00", "--3", "- 3", "-", "+", "", "3.0", "3e2", "1_1", "0x3", "\t3", "3\n", "3 ",
            " 3", "three", "None", "a3", "1" * 41, "-" + "1" * 41, "1" * 5000, "0" * 40 + "1",
        ]:
            for text in (f"{word}:7", f"7:{word}", f"2@{word}:7", f"2@7:{word}"):
                self.refuse(read_place, text)

    def test_signs(self):
        for text in [
            "", " ", "3", "@", ":", "3:", ":3", "3::4", "3:4:5", "3@4", "2@3", "2@3:", "2@:3", "2@3@4:5", "2:3@5", "2@3;5",
            "2 @3:5", "2@ 3:5", "2@3 :5", "2@3:5 ", " 2@3:5", "2@3:5\n", "\n", "3:4w2", "(2, 3, 5)", "3:4 5:6", "3:4@",
            "@3:4", "2@@3:5",
        ]:
            self.refuse(read_place, text)

    def test_other_scripts(self):
        for text in STRANGE_PLACES:
            self.refuse(read_place, text)

    def test_no_text(self):
        for thing in NO_TEXTS + [(1, 0, 0), b"3:4"]:
            self.refuse(read_place, thing)

    def test_forty_digits(self):
        most = 10 ** 40 - 1
        self.check((1, most, -most), f"{most}:-{most}")
        self.check((most, most - 1, 1 - most), f"{most}@{most - 1}:{1 - most}")
        self.check((most, 1, -most), f"{most}@1:-{most}")
        for text in [f"{most + 1}:0", f"0:{most + 1}", f"-{most + 1}:0", f"0:-{most + 1}", f"{most + 1}@1:1", f"3@1:{most + 2}"]:
            self.refuse(read_place, text)

    def test_more_digits_are_written(self):
        most = 10 ** 40
        for where in [(1, most, 0), (1, 0, -most), (most, 1, 3), (3, 10 ** 200, -1), (7 ** 300, 2, 5)]:
            by, x, y = where
            text = f"{x}:{y}" if by == 1 else f"{by}@{x}:{y}"
            self.assertEqual(show_place(where), text)
            self.refuse(read_place, text)

    def test_arguments_bear_their_names(self):
        self.assertEqual(show_place(place=(2, 1, 0)), "2@1:0")
        self.assertEqual(read_place(text="2@1:0"), (2, 1, 0))
        self.assertEqual(show_dots(dots=[(2, 1, 0, 1)]), "a2:1")
        self.assertEqual(read_dots(text="a2:1"), [(2, 1, 0, 1)])

    def test_what_the_program_gives_out(self):
        dots = painted([(0, 0), (3, 1), (0, 1), (3, 0)])
        self.check(deepest(dots)[1], "2@3:1")
        for seed in range(10):
            places = [place_of(dot[:2]) for dot in strewn(seed, 4, 9)]
            where = mixed(places, [1, 2, 3, 4])
            self.assertEqual(read_place(show_place(where)), where)


if __name__ == "__main__":
    unittest.main()

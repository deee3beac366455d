import unittest
from itertools import combinations

from halvecut.wholes import common_divisor, lowest, picks


class WholesTest(unittest.TestCase):
    def test_common_divisor(self):
        self.assertEqual([common_divisor(12, 18), common_divisor(-12, 18), common_divisor(0, -7)], [6, 6, 7])
        self.assertEqual(common_divisor(0, 0), 0)

    def test_lowest(self):
        self.assertEqual(lowest([12, 18, 30]), [2, 3, 5])
        self.assertEqual(lowest([7]), [1])
        self.assertEqual(lowest([6, 35]), [6, 35])
        self.assertEqual(lowest([6, 10, 15]), [6, 10, 15])

    def test_picks(self):
        for count in range(7):
            for size in range(1, 4):
                found = picks(count, size)
                self.assertEqual(found, [list(pick) for pick in combinations(range(count), size)])
                self.assertEqual(found, sorted(found))


if __name__ == "__main__":
    unittest.main()

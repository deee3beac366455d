import unittest

from halvecut import errors

NAMES = ["NoPlace", "NoLine", "NoDots", "NoMap", "TooFew", "TooMany", "NoSuch", "NoText", "NoAsk"]


class ErrorsTest(unittest.TestCase):
    def test_plane_error_stands_straight_under_value_error(self):
        self.assertEqual(errors.PlaneError.__bases__, (ValueError,))

    def test_every_other_stands_straight_under_plane_error(self):
        for name in NAMES:
            with self.subTest(name=name):
                self.assertEqual(getattr(errors, name).__bases__, (errors.PlaneError,))

    def test_none_stands_under_another(self):
        for one in NAMES:
            for other in NAMES:
                with self.subTest(one=one, other=other):
                    under = issubclass(getattr(errors, one), getattr(errors, other))
                    self.assertEqual(under, one == other)

    def test_each_bears_its_name_and_can_be_raised(self):
        for name in NAMES + ["PlaneError"]:
            with self.subTest(name=name):
                kind = getattr(errors, name)
                self.assertEqual(kind.__name__, name)
                with self.assertRaises(errors.PlaneError):
                    raise kind("words")


if __name__ == "__main__":
    unittest.main()

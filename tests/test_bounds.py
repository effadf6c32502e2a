"""The limits of the interface, with the values of points [4], [55] and [60]."""

import unittest

from mergelevels import bounds


class TestBounds(unittest.TestCase):
    def test_values(self):
        wanted = {"ITEMS": 12, "LEVEL": 10 ** 12, "GRADES": 60, "BATCH": 20}
        for name, value in wanted.items():
            with self.subTest(name=name):
                self.assertEqual(getattr(bounds, name), value)
                self.assertIs(getattr(bounds, name).__class__, int)


if __name__ == "__main__":
    unittest.main()

"""Z2: the bounds."""

import unittest

from nearnought import bounds

VALUES = {
    "MAX_KINDS": 4,
    "MAX_ROWS": 24,
    "MAX_AMOUNT": 1000000,
    "MAX_SMALL": 8,
    "MAX_LINES": 6,
    "MAX_COLUMNS": 16,
    "MAX_JOBS": 12,
    "MAX_MACHINES": 4,
    "MAX_FEW": 7,
    "MAX_EDITS": 30,
    "BATCH": 12,
    "HISTORY": 10,
}


class Bounds(unittest.TestCase):
    def test_the_value_of_each_bound(self):
        for name, value in VALUES.items():
            with self.subTest(name):
                self.assertEqual(getattr(bounds, name), value)
                self.assertIs(type(getattr(bounds, name)), int)


if __name__ == "__main__":
    unittest.main()

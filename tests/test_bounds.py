"""All eleven bounds."""

import unittest

from carryladder import bounds

BOUNDS = {
    "MAX_WORDS": 2, "MAX_STATES": 24, "MAX_WIDTH": 256, "MAX_ROWS": 6000, "MAX_PERIOD": 24, "MAX_STRING": 4000,
    "MAX_TURNINGS": 2000, "MAX_PLACES": 2000, "MAX_TABLE": 8, "MAX_EDITS": 200, "MAX_NAME": 20,
}


class BoundsTest(unittest.TestCase):
    def test_each_bound(self):
        found = {name: worth for name, worth in vars(bounds).items() if name.startswith("MAX_")}
        self.assertEqual(repr(found), repr(BOUNDS))


if __name__ == "__main__":
    unittest.main()

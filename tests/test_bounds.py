"""The bounds by their names."""

import unittest

from rightage import bounds

VALUES = {
    "ROUND": 6, "KINDS": 4, "SOURCES": 6, "OLD": 20, "SINCE": 1000000, "MANY": 9, "WAYS": 8,
    "PARTS": 3, "WAIT": 6, "READY": 26, "FAR": 1000000000000000, "LAST": 3000000000000000,
    "ITEMS": 4, "LATE": 60, "LOST": 12, "SPENT": 7, "DEEDS": 40,
}


class TestBounds(unittest.TestCase):
    def test_values(self):
        for name, value in VALUES.items():
            with self.subTest(name):
                self.assertEqual(getattr(bounds, name), value)
                self.assertIs(type(getattr(bounds, name)), int)

    def test_ready_is_the_oldest_part_and_the_longest_wait(self):
        self.assertEqual(bounds.READY, bounds.OLD + bounds.WAIT)


if __name__ == "__main__":
    unittest.main()

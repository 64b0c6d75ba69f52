"""The limits have the values that the interface tells."""

import unittest

from offerlists import limits


class Limits(unittest.TestCase):
    def test_values(self):
        told = {
            "MOST_WAVE": 3, "MOST_DAYS": 9, "MOST_KINDS": 4, "MOST_AHEAD": 12, "MOST_ENTRIES": 30,
            "MOST_NUMBER": 20, "MOST_PAIRS": 6, "WORDS": ("keep", "back", "out"),
        }
        for name, value in told.items():
            with self.subTest(name=name):
                self.assertEqual(getattr(limits, name), value)
                self.assertIs(getattr(limits, name).__class__, value.__class__)


if __name__ == "__main__":
    unittest.main()

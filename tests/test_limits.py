"""The interface's section wordfit/limits.py."""

import unittest

from wordfit import limits

VALUES = {
    "LENGTH": 12,
    "WORDS": 200,
    "PREFIXES": 600,
    "STATES": 600,
    "POINTS": 60,
    "CHOICES": 8,
    "NODES": 2000,
    "TOLD": 4,
    "COMPARED": 20,
    "FAULTS": 8,
    "LESSON": 300,
}


class LimitsTest(unittest.TestCase):
    def test_each_limit_has_its_documented_value(self):
        for name, value in VALUES.items():
            with self.subTest(limit=name):
                self.assertEqual(getattr(limits, name), value)
                self.assertIs(type(getattr(limits, name)), int)


if __name__ == "__main__":
    unittest.main()

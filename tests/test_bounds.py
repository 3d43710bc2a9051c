"""[4]: the nine numbers."""

import unittest

from fankinds import bounds


class Bounds(unittest.TestCase):
    def test_each_number(self):
        told = {
            "KINDS": 6, "RULES": 10, "DOORS": 6, "FAN": 4, "TOLD": 40,
            "RAISES": 6000, "ROOMS": 300, "DEEDS": 100, "BATCH": 20,
        }
        for name, number in told.items():
            with self.subTest(name=name):
                self.assertEqual(getattr(bounds, name), number)
                self.assertIs(getattr(bounds, name).__class__, int)


if __name__ == "__main__":
    unittest.main()

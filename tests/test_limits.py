"""The twelve limits."""

import unittest

from joinrounds import limits

LIMITS = {
    "MOST_PLANS": 4, "MOST_ROUNDS": 5, "MOST_CLAUSES": 3, "MOST_CLASSES": 3, "MOST_FAR": 4,
    "MOST_LAST": 4, "MOST_BASE": 4, "MOST_LEVEL": 100, "MOST_SIZE": 1000000000000,
    "MOST_CLAIMED": 1000000000000, "MOST_PIECES": 12, "MOST_SIGNS": 1000,
}


class LimitsTest(unittest.TestCase):

    def test_each_limit_has_its_value(self):
        for name, value in LIMITS.items():
            with self.subTest(name=name):
                self.assertEqual(getattr(limits, name), value)
                self.assertIs(type(getattr(limits, name)), int)

    def test_there_are_no_other_limits(self):
        found = [name for name in vars(limits) if not name.startswith("__")]
        self.assertEqual(sorted(found), sorted(LIMITS))


if __name__ == "__main__":
    unittest.main()

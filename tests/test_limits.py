import unittest

from frontmeets import limits

LIMITS = {
    "MOST_HEIGHT": 999,
    "MOST_PEOPLE": 40,
    "MOST_LINES": 8,
    "SMALL": 12,
    "MOST_DEEDS": 1000,
}


class LimitsTest(unittest.TestCase):
    def test_each_limit_is_the_integer_of_the_document(self):
        for name, number in LIMITS.items():
            with self.subTest(name=name):
                limit = getattr(limits, name)
                self.assertIs(type(limit), int)
                self.assertEqual(limit, number)

    def test_there_are_no_other_limits(self):
        names = [name for name in vars(limits) if not name.startswith("__")]
        self.assertEqual(sorted(names), sorted(LIMITS))


if __name__ == "__main__":
    unittest.main()

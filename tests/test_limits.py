"""The numbers of limits.py."""

import unittest

from touchpasses import limits


class Limits(unittest.TestCase):

    def test_each_number(self):
        wanted = {"MOST_LENGTH": 1000000000000, "MOST_PASSES": 8, "MOST_TOUCHES": 6, "MOST_GLIDE": 100,
                  "MOST_ORDERED": 6, "MOST_CHANGES": 6, "MOST_WISHES": 6}
        for name, number in wanted.items():
            with self.subTest(name):
                self.assertEqual(getattr(limits, name), number)
                self.assertIs(type(getattr(limits, name)), int)


if __name__ == "__main__":
    unittest.main()

"""Helpers that are no part of the interface, for what the calls of the interface do not ask of them yet."""

import unittest
from fractions import Fraction

from touchpasses.stretches import longest
from touchpasses.weights import lowest, plus, times


class Stretches(unittest.TestCase):

    def test_longest(self):
        for stretches, wanted in (((), ()), (((3, 5),), ((3, 5),)), (((3, 5), (5, 6)), ((3, 6),)),
                                  (((3, 5), (6, 7)), ((3, 5), (6, 7))), (((6, 7), (3, 5)), ((3, 5), (6, 7))),
                                  (((5, 6), (3, 5)), ((3, 6),)), (((0, 1), (3, 9), (4, 5)), ((0, 1), (3, 9))),
                                  (((4, 5), (3, 9), (3, 4), (8, 12)), ((3, 12),)), (((3, 5), (3, 5)), ((3, 5),))):
            for row in (list(stretches), tuple(stretches)):
                with self.subTest(stretches):
                    self.assertEqual(longest(row), wanted)


class Weights(unittest.TestCase):

    def test_fractions(self):
        many = [Fraction(top, bottom) for top in range(-6, 7) for bottom in range(1, 7)]
        for one in many:
            pair = (one.numerator, one.denominator)
            for scale in (1, 2, 6):
                self.assertEqual(lowest(pair[0] * scale, pair[1] * scale), pair)
            for other in many:
                second = (other.numerator, other.denominator)
                self.assertEqual(Fraction(*plus(pair, second)), one + other)
                self.assertEqual(plus(pair, second)[1], (one + other).denominator)
                self.assertEqual(Fraction(*times(pair, second)), one * other)
                self.assertEqual(times(pair, second)[1], (one * other).denominator)


if __name__ == "__main__":
    unittest.main()

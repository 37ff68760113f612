"""Helpers that are no part of the interface, for what the calls of the interface do not ask of them yet."""

import unittest
from fractions import Fraction

from touchpasses.parts import all_parts, contains, contains_any, least_parts_of
from touchpasses.stretches import first_gap, longest
from touchpasses.weights import distance, is_fraction, is_less, lowest, plus, times


class Stretches(unittest.TestCase):

    def test_longest(self):
        for stretches, wanted in (((), ()), (((3, 5),), ((3, 5),)), (((3, 5), (5, 6)), ((3, 6),)),
                                  (((3, 5), (6, 7)), ((3, 5), (6, 7))), (((6, 7), (3, 5)), ((3, 5), (6, 7))),
                                  (((5, 6), (3, 5)), ((3, 6),)), (((0, 1), (3, 9), (4, 5)), ((0, 1), (3, 9))),
                                  (((4, 5), (3, 9), (3, 4), (8, 12)), ((3, 12),)), (((3, 5), (3, 5)), ((3, 5),))):
            for row in (list(stretches), tuple(stretches)):
                with self.subTest(stretches):
                    self.assertEqual(longest(row), wanted)

    def test_first_gap(self):
        for stretches, begin, end, wanted in (
                ((), 0, 1, 0), ((), 5, 9, 5), (((3, 5),), 3, 5, None), (((3, 5),), 3, 6, 5), (((3, 5),), 2, 5, 2),
                (((3, 5),), 4, 5, None), (((3, 5),), 4, 9, 5), (((3, 5),), 5, 6, 5), (((3, 5),), 0, 3, 0),
                (((3, 5), (6, 9)), 3, 9, 5), (((3, 5), (6, 9)), 6, 9, None), (((3, 5), (6, 9)), 7, 12, 9),
                (((0, 2), (3, 5), (6, 9)), 3, 5, None), (((0, 10 ** 12),), 0, 10 ** 12, None)):
            with self.subTest((stretches, begin, end)):
                self.assertEqual(first_gap(stretches, begin, end), wanted)


class Parts(unittest.TestCase):

    def test_all_parts(self):
        self.assertEqual(all_parts(0), [()])
        self.assertEqual(all_parts(3), [(), (0,), (1,), (2,), (0, 1), (0, 2), (1, 2), (0, 1, 2)])
        self.assertEqual(len(set(all_parts(8))), 256)

    def test_contains(self):
        self.assertTrue(contains((0, 2), (2,)) and contains((), ()) and contains_any((0, 2), [(1,), (0, 2)]))
        self.assertFalse(contains((0, 2), (1,)) or contains((), (0,)) or contains_any((0, 2), [(1,), (0, 1)]))

    def test_least_parts(self):
        for right, wanted in (([], ()), ([()], ((),)), ([(), (0,)], ((),)), ([(0,), (0, 1), (1, 2)], ((0,), (1, 2))),
                              ([(0, 1, 2)], ((0, 1, 2),)), ([(1, 2), (0, 1), (0, 2)], ((0, 1), (0, 2), (1, 2)))):
            self.assertEqual(least_parts_of(3, lambda part: part in right), wanted)


class Weights(unittest.TestCase):

    def test_fractions(self):
        many = [Fraction(top, bottom) for top in range(-6, 7) for bottom in range(1, 7)]
        for one in many:
            pair = (one.numerator, one.denominator)
            for scale in (1, 2, 6):
                self.assertEqual(lowest(pair[0] * scale, pair[1] * scale), pair)
            for other in many:
                second = (other.numerator, other.denominator)
                self.assertEqual(Fraction(*plus(pair, second)), one + other)
                self.assertEqual(plus(pair, second)[1], (one + other).denominator)
                self.assertEqual(Fraction(*times(pair, second)), one * other)
                self.assertEqual(times(pair, second)[1], (one * other).denominator)
                self.assertEqual(Fraction(*distance(pair, second)), abs(one - other))
                self.assertEqual(distance(pair, second)[1], abs(one - other).denominator)
                self.assertIs(is_less(pair, second), one < other)

    def test_which_pairs_are_fractions(self):
        for top in range(-8, 9):
            for bottom in range(-4, 9):
                number = Fraction(top, bottom) if bottom else None
                right = bottom > 0 and (number.numerator, number.denominator) == (top, bottom)
                self.assertIs(is_fraction((top, bottom)), right)
                self.assertIs(is_fraction([top, bottom]), False)
        for value in ((0, True), (True, 1), (1, None), ("1", 2), (1,), (1, 2, 3), None, 5, "12", ((1, 2),)):
            self.assertIs(is_fraction(value), False)


if __name__ == "__main__":
    unittest.main()

"""Fractions as pairs: lowest terms, which one is less, sums, so many times, parts."""

import unittest
from fractions import Fraction

from lastingly.fraction import added, in_lowest_terms, is_less, parted, times
from reckoning import pair


class LowestTerms(unittest.TestCase):
    def test_each_small_fraction(self):
        for above in range(40):
            for below in range(1, 40):
                fraction = Fraction(above, below)
                self.assertEqual(in_lowest_terms(above, below), pair(fraction))

    def test_nought(self):
        self.assertEqual(in_lowest_terms(0, 7), (0, 1))


class Less(unittest.TestCase):
    def test_each_pair_of_small_fractions(self):
        pairs = [(above, below) for above in range(7) for below in range(1, 7)]
        for one in pairs:
            for other in pairs:
                self.assertIs(is_less(one, other), Fraction(*one) < Fraction(*other))


class Reckoning(unittest.TestCase):
    def test_each_of_small_fractions(self):
        fractions = [Fraction(above, below) for above in range(7) for below in range(1, 7)]
        for one in fractions:
            for other in fractions:
                self.assertEqual(added(pair(one), pair(other)), pair(one + other))
            for number in range(1, 9):
                self.assertEqual(times(pair(one), number), pair(one * number))
                self.assertEqual(parted(pair(one), number), pair(one / number))

    def test_nought_times(self):
        self.assertEqual(times((5, 3), 0), (0, 1))


if __name__ == "__main__":
    unittest.main()

"""Fractions as pairs: lowest terms, and which one is less."""

import unittest
from fractions import Fraction

from lastingly.fraction import in_lowest_terms, is_less


class LowestTerms(unittest.TestCase):
    def test_each_small_fraction(self):
        for above in range(40):
            for below in range(1, 40):
                fraction = Fraction(above, below)
                self.assertEqual(in_lowest_terms(above, below), (fraction.numerator, fraction.denominator))

    def test_nought(self):
        self.assertEqual(in_lowest_terms(0, 7), (0, 1))


class Less(unittest.TestCase):
    def test_each_pair_of_small_fractions(self):
        pairs = [(above, below) for above in range(7) for below in range(1, 7)]
        for one in pairs:
            for other in pairs:
                self.assertIs(is_less(one, other), Fraction(*one) < Fraction(*other))


if __name__ == "__main__":
    unittest.main()

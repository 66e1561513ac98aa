"""Fractions as pairs (above, below), below from 1 on."""

from math import gcd


def in_lowest_terms(above, below):
    """The fraction of two whole numbers, below from 1 on."""
    common = gcd(above, below)
    return above // common, below // common


def is_less(one, other):
    """Whether one fraction is less than another one."""
    return one[0] * other[1] < other[0] * one[1]


def added(one, other):
    """The sum of two fractions."""
    return in_lowest_terms(one[0] * other[1] + other[0] * one[1], one[1] * other[1])


def times(fraction, number):
    """A fraction so many times, by a whole number."""
    return in_lowest_terms(fraction[0] * number, fraction[1])


def parted(fraction, number):
    """A fraction by a whole number from 1 on."""
    return in_lowest_terms(fraction[0], fraction[1] * number)

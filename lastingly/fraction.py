"""Fractions as pairs (above, below), below from 1 on."""

from math import gcd


def in_lowest_terms(above, below):
    """The fraction of two whole numbers, below from 1 on."""
    common = gcd(above, below)
    return above // common, below // common


def is_less(one, other):
    """Whether one fraction is less than another one."""
    return one[0] * other[1] < other[0] * one[1]

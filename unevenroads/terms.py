"""Fractions in least terms."""

from math import gcd


def in_least_terms(above, below):
    """The pair of both over their greatest common divisor."""
    divisor = gcd(above, below)
    return (above // divisor, below // divisor)

"""Fractions: pairs (top, bottom) of integers, the bottom from 1 on, without a common divisor above 1."""

from math import gcd

from lastbell.kinds import is_integer, is_list


def is_fraction(thing):
    if not is_list(thing) or len(thing) != 2:
        return False
    top, bottom = thing
    return is_integer(top) and is_integer(bottom) and bottom > 0 and gcd(top, bottom) == 1


def fraction(top, bottom):
    """So much by a bottom from 1 on, in lowest terms."""
    common = gcd(top, bottom)
    return top // common, bottom // common


def least_fraction(pairs):
    """The least of some pairs (top, bottom), bottoms from 1 on, in lowest terms."""
    least, by = pairs[0]
    for top, bottom in pairs:
        if top * by < least * bottom:
            least = top
            by = bottom
    return fraction(least, by)

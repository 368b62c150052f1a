"""Fractions: tuples (top, bottom) of whole numbers in lowest terms, the bottom 1 or more."""

from math import gcd

from signbook.errors import NoFraction


def is_whole(thing):
    """Tell of anything whether it is a whole number."""
    # Python counts True and False among its integers, but they are no whole numbers here.
    return isinstance(thing, int) and not isinstance(thing, bool)


def is_fraction(thing):
    """Tell of anything whether it is a fraction."""
    if not isinstance(thing, tuple) or len(thing) != 2:
        return False
    top, bottom = thing
    if not is_whole(top) or not is_whole(bottom):
        return False
    return bottom >= 1 and gcd(top, bottom) == 1


def fraction(top, bottom=1):
    """Tell the fraction that is the top divided by the bottom."""
    if not is_whole(top) or not is_whole(bottom):
        raise NoFraction("a fraction is made of two whole numbers")
    if bottom == 0:
        raise NoFraction("nothing is divided by 0")
    common = gcd(top, bottom)
    # A common divisor of the bottom's sign leaves a bottom of 1 or more.
    if bottom < 0:
        common = -common
    return (top // common, bottom // common)


def plus(one, other):
    """Tell the sum of two fractions."""
    return fraction(one[0] * other[1] + other[0] * one[1], one[1] * other[1])


def minus(one, other):
    """Tell the one fraction less the other."""
    return fraction(one[0] * other[1] - other[0] * one[1], one[1] * other[1])


def times(one, other):
    """Tell the product of two fractions."""
    return fraction(one[0] * other[0], one[1] * other[1])


def divided(one, other):
    """Tell the one fraction divided by the other, which is refused where it is 0."""
    # The other's top becomes a bottom here, so the fraction 0 is refused as a bottom 0.
    return fraction(one[0] * other[1], one[1] * other[0])


def under(one, other):
    """Tell whether the one fraction is less than the other."""
    return one[0] * other[1] < other[0] * one[1]


def floor_of(value):
    """Tell the greatest whole number that is not above a fraction."""
    return value[0] // value[1]


def ceiling_of(value):
    """Tell the least whole number that is not below a fraction."""
    return -(-value[0] // value[1])

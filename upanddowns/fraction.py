"""Fractions, each a tuple of its top and its bottom without a common divisor."""

from upanddowns.errors import NoFraction
from upanddowns.whole import is_pair


def divisor(one, other):
    """The greatest number that divides two numbers, not both of them 0."""
    while other != 0:
        one, other = other, one % other
    return abs(one)


def is_fraction(thing):
    """Whether a thing is a fraction."""
    return is_pair(thing) and thing[1] >= 1 and divisor(thing[0], thing[1]) == 1


def need_fraction(thing):
    """Refuse what is no fraction."""
    if not is_fraction(thing):
        raise NoFraction("a fraction is a top and a bottom from 1 on that no number above 1 divides both")


def lowest(top, bottom):
    """The fraction that is a top over a bottom above 0."""
    common = divisor(top, bottom)
    return (top // common, bottom // common)

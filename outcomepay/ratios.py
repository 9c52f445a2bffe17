"""Exact fractions: pairs of integers in lowest terms, the second one at least 1."""

from math import gcd

ZERO = (0, 1)
ONE = (1, 1)


def is_integer(thing):
    """Whether this is an integer; a boolean is none."""
    return isinstance(thing, int) and not isinstance(thing, bool)


def is_integer_within(thing, least, most):
    """Whether this is an integer from least to most."""
    return is_integer(thing) and least <= thing <= most


def is_fraction(thing):
    """Whether this is a fraction in lowest terms, perhaps less than 0."""
    if not isinstance(thing, tuple) or len(thing) != 2:
        return False
    top, bottom = thing
    if not is_integer(top) or not is_integer(bottom):
        return False
    return bottom >= 1 and gcd(top, bottom) == 1


def is_amount(thing):
    """Whether this is a fraction of at least 0."""
    return is_fraction(thing) and thing[0] >= 0


def ratio(top, bottom):
    """The fraction top / bottom, for a bottom of at least 1."""
    shared = gcd(top, bottom)
    return (top // shared, bottom // shared)


def plus(one, other):
    """The sum of two fractions."""
    return ratio(one[0] * other[1] + other[0] * one[1], one[1] * other[1])


def negative(one):
    """The fraction with the opposite sign."""
    return (-one[0], one[1])


def minus(one, other):
    """The first fraction less the second one."""
    return plus(one, negative(other))


def times(one, other):
    """The product of two fractions."""
    return ratio(one[0] * other[0], one[1] * other[1])


def inverse(one):
    """1 divided by a fraction that is not 0."""
    top, bottom = one
    return (bottom, top) if top > 0 else (-bottom, -top)


def over(one, other):
    """The first fraction divided by the second one, which is not 0."""
    return times(one, inverse(other))


def is_less(one, other):
    """Whether the first fraction is less than the second one."""
    return one[0] * other[1] < other[0] * one[1]


def total(amounts):
    """The sum of fractions."""
    found = ZERO
    for amount in amounts:
        found = plus(found, amount)
    return found


def weighted(weights, amounts):
    """The sum of fractions, each multiplied by its weight."""
    return total([times(weight, amount) for weight, amount in zip(weights, amounts)])

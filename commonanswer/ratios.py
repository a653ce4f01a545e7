"""Fractions: pairs (top, bottom) of integers without a common divisor, the bottom above 0."""

from math import gcd

from commonanswer.systems import is_integer, is_tuple_of

ZERO = (0, 1)
ONE = (1, 1)


def is_fraction(value):
    """Whether a value is a fraction."""
    if not is_tuple_of(value, 2):
        return False
    top, bottom = value
    return is_integer(top) and is_integer(bottom) and bottom > 0 and gcd(top, bottom) == 1


def fraction(top, bottom):
    """The fraction of two integers, of which the second one is above 0."""
    shared = gcd(top, bottom)
    return (top // shared, bottom // shared)


def plus(one, other):
    """The sum of two fractions."""
    return fraction(one[0] * other[1] + other[0] * one[1], one[1] * other[1])


def times(one, other):
    """The product of two fractions."""
    return fraction(one[0] * other[0], one[1] * other[1])


def over(one, other):
    """A fraction divided by another one, which is above 0."""
    return fraction(one[0] * other[1], one[1] * other[0])


def opposite(one):
    """0 less a fraction."""
    return (-one[0], one[1])


def minus(one, other):
    """A fraction less another one."""
    return plus(one, opposite(other))


def is_below(one, other):
    """Whether a fraction is below another one."""
    return one[0] * other[1] < other[0] * one[1]


def weighed(weights, fractions):
    """The sum over all places of weight times fraction."""
    total = ZERO
    for weight, part in zip(weights, fractions):
        total = plus(total, times(weight, part))
    return total


def dot(numbers, fractions):
    """The sum over all places of integer times fraction."""
    return weighed([(number, 1) for number in numbers], fractions)

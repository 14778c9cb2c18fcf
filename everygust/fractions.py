"""Fractions: pairs (p, q) of integers, q at least 1, without a common divisor above 1."""

from math import gcd


def fraction_of(p, q):
    """The fraction of the number p / q; q is not 0, perhaps below 0."""
    if q < 0:
        p, q = -p, -q
    shared = gcd(p, q)
    return (p // shared, q // shared)


def plus(one, other):
    """The sum."""
    return fraction_of(one[0] * other[1] + other[0] * one[1], one[1] * other[1])


def minus(one, other):
    """The one less the other."""
    return fraction_of(one[0] * other[1] - other[0] * one[1], one[1] * other[1])


def times(one, other):
    """The product."""
    return fraction_of(one[0] * other[0], one[1] * other[1])


def over(one, other):
    """The one divided by the other, None if that is 0."""
    if other[0] == 0:
        return None
    return fraction_of(one[0] * other[1], one[1] * other[0])


def total(fractions):
    """The sum of a list of fractions."""
    found = (0, 1)
    for one in fractions:
        found = plus(found, one)
    return found


def is_less(one, other):
    """Whether the one is less than the other."""
    return one[0] * other[1] < other[0] * one[1]


def lowest(fractions):
    """The least of a list of at least one."""
    found = fractions[0]
    for one in fractions:
        if is_less(one, found):
            found = one
    return found


def highest(fractions):
    """The greatest of a list of at least one."""
    found = fractions[0]
    for one in fractions:
        if is_less(found, one):
            found = one
    return found


def floor_of(t):
    """The greatest integer of at most t."""
    return t[0] // t[1]


def ceiling_of(t):
    """The least integer of at least t."""
    return -(-t[0] // t[1])

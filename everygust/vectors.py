"""Tuples of integers, and points told with one denominator for all coordinates."""

from math import gcd, lcm

from everygust.fractions import fraction_of


def dot(one, other):
    """The sum of the products of the members."""
    return sum([x * y for x, y in zip(one, other)])


def divisor(numbers):
    """The greatest common divisor of some integers, 0 if all are 0."""
    found = 0
    for number in numbers:
        found = gcd(found, number)
        if found == 1:
            return 1
    return found


def primitive(vector):
    """The vector divided by the greatest common divisor of its members."""
    shared = divisor(vector)
    if shared < 2:
        return tuple(vector)
    return tuple([k // shared for k in vector])


def whole(fractions):
    """The pair (numbers, denominator): all fractions told with the least common denominator."""
    shared = 1
    for one in fractions:
        shared = lcm(shared, one[1])
    return (tuple([p * (shared // q) for p, q in fractions]), shared)


def divided(numbers, denominator):
    """The tuple of the fractions that some integers make with one denominator."""
    return tuple([fraction_of(k, denominator) for k in numbers])


def unit(n, place, number):
    """The tuple of n integers that has a number at one place and noughts elsewhere."""
    return tuple([number if k == place else 0 for k in range(n)])

"""Whether a value, which may be anything, has a form: for judges, who tell no path."""

from math import gcd


def is_whole(value):
    """An integer."""
    return type(value) is int


def is_number_of(value, many):
    """The number of one of so many."""
    return type(value) is int and 0 <= value < many


def is_tuple_of(value, many):
    """A tuple of so many members."""
    return type(value) is tuple and len(value) == many


def is_told(value, word, many):
    """A tuple of so many members that begins with a word."""
    return is_tuple_of(value, many) and type(value[0]) is str and value[0] == word


def is_fraction(value):
    """A fraction."""
    if not is_tuple_of(value, 2) or type(value[0]) is not int or type(value[1]) is not int:
        return False
    return value[1] >= 1 and gcd(value[0], value[1]) == 1


def is_weight(value):
    """A fraction of at least 0."""
    return is_fraction(value) and value[0] >= 0


def is_share(value):
    """A fraction above 0."""
    return is_fraction(value) and value[0] > 0


def is_point(n, value):
    """A point of n; so also a form of n, or n weights of any sign."""
    return is_tuple_of(value, n) and all(is_fraction(one) for one in value)


def is_weights(many, value):
    """So many weights of at least 0."""
    return is_tuple_of(value, many) and all(is_weight(one) for one in value)


def is_row(n, value):
    """A row of n."""
    if not is_tuple_of(value, 2) or not is_tuple_of(value[0], n) or not is_whole(value[1]):
        return False
    return all(is_whole(one) for one in value[0])


def is_ascending(numbers):
    """Whether each integer is greater than the one ahead of it."""
    return all(one < other for one, other in zip(numbers, numbers[1:]))


def is_room(n, value):
    """A room of n."""
    if not is_tuple_of(value, 2) or not is_whole(value[0]) or value[0] != n or type(value[1]) is not tuple:
        return False
    return all(is_row(n, row) for row in value[1])

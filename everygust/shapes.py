"""What the forms of values are, told by the path of the first wrong part."""

from math import gcd

from everygust.errors import BadShape


def tuple_at(value, many, path):
    """Refuses what is no tuple of so many members."""
    if type(value) is not tuple or len(value) != many:
        raise BadShape(path)


def any_tuple_at(value, path):
    """Refuses what is no tuple."""
    if type(value) is not tuple:
        raise BadShape(path)


def some_tuple_at(value, least, most, path):
    """Refuses what is no tuple, or has fewer or more members than it may have."""
    if type(value) is not tuple or not least <= len(value) <= most:
        raise BadShape(path)


def whole_at(value, path):
    """Refuses what is no integer."""
    if type(value) is not int:
        raise BadShape(path)


def wholes_at(value, many, path):
    """Refuses what is no tuple of so many integers."""
    tuple_at(value, many, path)
    for k, one in enumerate(value):
        whole_at(one, path + (k,))


def fraction_at(value, path):
    """Refuses what is no fraction; a common divisor is looked for behind the members."""
    tuple_at(value, 2, path)
    whole_at(value[0], path + (0,))
    whole_at(value[1], path + (1,))
    if value[1] < 1:
        raise BadShape(path + (1,))
    if gcd(value[0], value[1]) > 1:
        raise BadShape(path)


def point_at(n, value, path):
    """Refuses what is no point of n."""
    tuple_at(value, n, path)
    for k, one in enumerate(value):
        fraction_at(one, path + (k,))


def row_at(n, value, path):
    """Refuses what is no row of n."""
    tuple_at(value, 2, path)
    wholes_at(value[0], n, path + (0,))
    whole_at(value[1], path + (1,))


def room_at(value, path):
    """Refuses what is no room; tells of how many coordinates it is."""
    tuple_at(value, 2, path)
    n = value[0]
    whole_at(n, path + (0,))
    if not 0 <= n <= 6:
        raise BadShape(path + (0,))
    any_tuple_at(value[1], path + (1,))
    for k, row in enumerate(value[1]):
        row_at(n, row, path + (1, k))
    return n


def room_of_at(n, value, path):
    """Refuses what is no room of n."""
    tuple_at(value, 2, path)
    whole_at(value[0], path + (0,))
    if value[0] != n:
        raise BadShape(path + (0,))
    room_at(value, path)


def matrix_at(r, c, value, path):
    """Refuses what is no matrix of r and c."""
    tuple_at(value, r, path)
    for k, line in enumerate(value):
        point_at(c, line, path + (k,))


def told_matrix_at(r, value, path):
    """Refuses what is no matrix of r lines, at least 1; tells how many members its first line has."""
    tuple_at(value, r, path)
    some_tuple_at(value[0], 0, 6, path + (0,))
    matrix_at(r, len(value[0]), value, path)
    return len(value[0])

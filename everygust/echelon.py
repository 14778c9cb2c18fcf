"""Vectors of integers, made 0 by one another: rank, reduced bases, and what is nought with all of them."""

from math import lcm

from everygust.vectors import dot, primitive, unit


def head_of(vector):
    """The column of the first number that is not 0, None if there is none."""
    for column, k in enumerate(vector):
        if k:
            return column
    return None


def made_less(vector, other, column):
    """The vector taken some times above 0, less a multiple of the other one, so that it has 0 in a column."""
    k, head = vector[column], other[column]
    if k == 0:
        return vector
    if head < 0:
        k, head = -k, -head
    return primitive([v * head - k * w for v, w in zip(vector, other)])


def reduced(vectors):
    """The reduced base of what integer vectors make: primitive, heads above 0, ascending by the heads' columns."""
    base = {}
    for vector in vectors:
        told = vector
        for column in base:
            told = made_less(told, base[column], column)
        head = head_of(told)
        if head is None:
            continue
        told = primitive(told)
        if told[head] < 0:
            told = tuple([-k for k in told])
        base = {column: made_less(base[column], told, head) for column in base}
        base[head] = told
    return [base[column] for column in sorted(base)]


def rank(vectors):
    """How many of the vectors can be taken without one that the others make."""
    return len(reduced(vectors))


def independent(vectors, most):
    """The numbers of the first vectors that no vectors ahead of them make, at most so many."""
    found, base = [], []
    for k, vector in enumerate(vectors):
        if len(found) == most:
            break
        longer = reduced(base + [vector])
        if len(longer) > len(base):
            found.append(k)
            base = longer
    return found


def nought_with(vectors, size):
    """A base of the vectors of so many members whose product with each of these is 0."""
    base = reduced(vectors)
    heads = [head_of(vector) for vector in base]
    found = []
    for free in range(size):
        if free in heads:
            continue
        # Each head's number is told by the free one, all taken so often that they become integers.
        scale = 1
        for vector, head in zip(base, heads):
            scale = lcm(scale, vector[head])
        told = list(unit(size, free, scale))
        for vector, head in zip(base, heads):
            told[head] = -vector[free] * scale // vector[head]
        found.append(primitive(told))
    return found


def determinant(rows):
    """The determinant of as many vectors as they have members."""
    left = [list(row) for row in rows]
    sign, last = 1, 1
    while left:
        place = next_row(left)
        if place is None:
            return 0
        if place:
            left[0], left[place] = left[place], left[0]
            sign = -sign
        head, rest = left[0], left[1:]
        left = [[(head[0] * v - row[0] * h) // last for v, h in zip(row[1:], head[1:])] for row in rest]
        last = head[0]
    return sign * last


def next_row(rows):
    """The number of the first row that does not begin with 0, None if there is none."""
    for k, row in enumerate(rows):
        if row[0]:
            return k
    return None


def crossing(vectors, number):
    """The vector whose product is 0 with all of some independent vectors but one, and above 0 with that one."""
    others = [vector for k, vector in enumerate(vectors) if k != number]
    found = nought_with(others, len(vectors[0]))[0]
    if dot(found, vectors[number]) < 0:
        return tuple([-k for k in found])
    return found

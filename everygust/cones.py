"""Cones: what rows of integers, met one after another, leave of the vectors whose products with them are 0 or more.

A cone is told by its edges, each a pair (vector, met): a vector without a common divisor, and an integer whose
binary figure number k is 1 if its product with row number k is 0.
"""

from everygust.echelon import crossing, independent
from everygust.vectors import dot, primitive


def first_cone(rows):
    """The edges of the cone of as many independent rows as they have members."""
    everywhere = (1 << len(rows)) - 1
    return [(crossing(rows, k), everywhere - (1 << k)) for k in range(len(rows))]


def has_figures(number, many):
    """Whether at least so many binary figures of a number are 1."""
    for _ in range(many - 1):
        number &= number - 1
    return many < 1 or number != 0


def _is_shared_by_two(edges, common):
    # Whether just two edges have met all the rows that common tells: then these two bound one face.
    found = 0
    for _, met in edges:
        if met & common == common:
            found += 1
            if found > 2:
                return False
    return True


def _new_edges(edges, lost, held, size):
    # Where a face leads from an edge that is lost to one that is held, the row meets it between the two.
    found = []
    for vector, met, k in lost:
        for other, met_too, j in held:
            common = met & met_too
            if has_figures(common, size - 2) and _is_shared_by_two(edges, common):
                found.append((primitive([j * v - k * w for v, w in zip(vector, other)]), common))
    return found


def met_by(edges, row, number, size):
    """The edges of the cone that one more row, with this number, leaves of a cone; size is that of its vectors.

    Where the cone has lines, on which all rows are 0, size is less by as many as are independent.
    """
    bit = 1 << number
    lost, held, kept = [], [], []
    near = 0
    for vector, met in edges:
        k = dot(row, vector)
        if k < 0:
            lost.append((vector, met, k))
            near |= met
        elif k == 0:
            kept.append((vector, met | bit))
        else:
            held.append((vector, met, k))
            kept.append((vector, met))
    if lost:
        beside = [one for one in held if has_figures(one[1] & near, size - 2)]
        kept.extend([(vector, met | bit) for vector, met in _new_edges(edges, lost, beside, size)])
    return kept


def cone_of(rows):
    """The edges of the cone of all rows, of which as many are independent as they have members."""
    size = len(rows[0])
    begin = independent(rows, size)
    edges = []
    for vector, met in first_cone([rows[k] for k in begin]):
        edges.append((vector, sum([1 << k for j, k in enumerate(begin) if met >> j & 1])))
    for number, row in enumerate(rows):
        if number not in begin:
            edges = met_by(edges, row, number, size)
    return edges

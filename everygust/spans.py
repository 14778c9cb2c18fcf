"""The room of all means of some points: by the flat that they span and the cone of all rows that let them by.

Points are told as above_one tells them: their coordinates as integers behind a common denominator.
"""

from everygust.cones import cone_of
from everygust.echelon import nought_with
from everygust.means import above_one
from everygust.trimming import Trimmed, base_of, free_columns


def told_free(vector, free):
    """What tells the point by its free coordinates alone."""
    return (vector[0],) + tuple([vector[k + 1] for k in free])


def row_of_edge(n, free, edge):
    """The row of n that an edge of a cone tells: its product with what tells a point is at least 0."""
    members = [0] * n
    for k, number in zip(free, edge[1:]):
        members[k] = -number
    return (tuple(members), edge[0])


def equations_of(vectors):
    """The base of the equations told by vectors whose products with what tells a point are 0."""
    return base_of([(tuple([-k for k in vector[1:]]), vector[0]) for vector in vectors])


def alone_on_sides(met, many):
    """The ascending numbers of those of so many points that no other one is on all their sides with.

    Each side is told by an integer: binary figure number k is 1 if point number k is on it.
    """
    found = []
    for k in range(many):
        common = (1 << many) - 1
        for side in met:
            if side >> k & 1:
                common &= side
        if common == 1 << k:
            found.append(k)
    return found


class Span:
    """The hull of at least one point, as its lean form tells it; sides has its sides, ascending.

    met tells for each side at which points it is tight, as in alone_on_sides; of equal points the first one stands
    for all, and numbers has the numbers of these.
    """

    def __init__(self, n, points):
        seen = {}
        for number, point in enumerate(points):
            vector = above_one(point)
            if vector not in seen:
                seen[vector] = number
        self.vectors = list(seen)
        self.numbers = [seen[vector] for vector in seen]
        base = equations_of(nought_with(self.vectors, n + 1))
        free = free_columns(n, base)
        pairs = []
        if free:
            for edge, met in cone_of([told_free(vector, free) for vector in self.vectors]):
                pairs.append((row_of_edge(n, free, edge), met))
        pairs = sorted(pairs)
        self.met = [met for _, met in pairs]
        self.trim = Trimmed(n, base, [row for row, _ in pairs], None)

    def corner_numbers(self):
        """The ascending numbers of the points that are corners, of equal ones the first."""
        return [self.numbers[k] for k in alone_on_sides(self.met, len(self.numbers))]

"""Regions with points, each kept with the cone of its closing, and what rows part them into.

The closing of a region of n is told by a cone of n + 1: each of its points is the later numbers of a vector of the
cone, divided by the first one, which is above 0.
"""

from everygust.cones import met_by
from everygust.vectors import dot, primitive, unit


def turned(row):
    """The row of all points that reach the bound of a row or more."""
    return (tuple([-k for k in row[0]]), -row[1])


def _asked(row):
    # What a row asks of the vectors of a cone: that their product with this is at least 0.
    return (row[1],) + tuple([-k for k in row[0]])


class Cone:
    """A cone by its lines, on which all rows are 0, and its edges beside these, as in cones; many rows were met."""

    def __init__(self, lines, edges, many):
        self.lines = lines
        self.edges = edges
        self.many = many

    def meeting(self, vector):
        """The cone of those vectors of this one whose product with a vector is at least 0."""
        for number, line in enumerate(self.lines):
            if dot(vector, line):
                return self._along(vector, number)
        size = len(vector) - len(self.lines)
        return Cone(self.lines, met_by(self.edges, vector, self.many, size), self.many + 1)

    def _along(self, vector, number):
        # One line is met: its half is an edge, and all else is moved along it to where the product is 0.
        line = self.lines[number]
        k = dot(vector, line)
        if k < 0:
            line, k = tuple([-v for v in line]), -k
        others = [self._moved(one, vector, line, k) for j, one in enumerate(self.lines) if j != number]
        bit = 1 << self.many
        edges = [(self._moved(one, vector, line, k), met | bit) for one, met in self.edges]
        edges.append((line, bit - 1))
        return Cone(others, edges, self.many + 1)

    def _moved(self, one, vector, line, k):
        j = dot(vector, one)
        return primitive([k * v - j * w for v, w in zip(one, line)])


def _has_points(edges, strict):
    # Whether edges have a point that is slack at each row that the binary figures of strict tell: a mean of all of
    # them is slack wherever one of them is.
    common = strict
    for _, met in edges:
        common &= met
    return common == 0 and any(vector[0] for vector, _ in edges)


class Zone:
    """A region with points, and the cone of its closing; strict has the strict rows of the cone by binary figures.

    Rows that all points of the region keep, or keep strictly, need not be among those that the cone has met.
    """

    def __init__(self, region, cone, strict):
        self.region = region
        self.cone = cone
        self.strict = strict

    def _kept(self, row, cone):
        n, rows, strict = self.region
        return Zone((n, rows + (row,), strict), cone, self.strict)

    def _broken(self, row, cone, more):
        n, rows, strict = self.region
        return Zone((n, rows, strict + (turned(row),)), cone, self.strict | more)

    def parted(self, row):
        """The pair of the zone of the points that keep a row, and that of those that break it, each perhaps None."""
        vector = _asked(row)
        products = [dot(vector, edge) for edge, _ in self.cone.edges]
        is_crossed = any(dot(vector, line) for line in self.cone.lines)
        if not is_crossed and all(k >= 0 for k in products):
            return (self._kept(row, self.cone), None)
        if not is_crossed and all(k <= 0 for k in products) and not self._has_points_on(products):
            return (None, self._broken(row, self.cone, 0))
        away = tuple([-k for k in vector])
        kept = self._kept(row, self.cone.meeting(vector))
        return (kept, self._broken(row, self.cone.meeting(away), 1 << self.cone.many))

    def _has_points_on(self, products):
        # Whether the zone has points where the products are 0; they are so nowhere above it.
        return _has_points([edge for edge, k in zip(self.cone.edges, products) if k == 0], self.strict)

    def less(self, room):
        """The list of the zones of this one less a room: by the first row of the room that is broken."""
        found, left = [], self
        for row in room[1]:
            left, out = left.parted(row)
            if out is not None:
                found.append(out)
            if left is None:
                break
        return found

    def common(self, room):
        """The zone of the points that are also in a room, None if there are none."""
        found = self
        for row in room[1]:
            found = found.parted(row)[0]
            if found is None:
                return None
        return found


def zone_of(region):
    """The zone of a region, None if it has no points."""
    n, rows, strict = region
    cone = Cone([unit(n + 1, k, 1) for k in range(n + 1)], [], 0)
    for vector in [unit(n + 1, 0, 1)] + [_asked(row) for row in rows + strict]:
        cone = cone.meeting(vector)
    figures = ((1 << len(strict)) - 1) << (1 + len(rows))
    return Zone(region, cone, figures) if _has_points(cone.edges, figures) else None

"""What views of bounded rooms show, from within: points are asked for that lie ever further out.

What is known of it is the hull of the points that were found. Each side of this is either one of all that the view
shows, which the greatest worth there tells, or there is a point beyond it, which is found then.
"""

from everygust.cones import first_cone, met_by
from everygust.echelon import nought_with, rank
from everygust.errors import TooGreat
from everygust.limits import MOST_ROWS
from everygust.solids import ascending_points
from everygust.spans import alone_on_sides, equations_of, row_of_edge, told_free
from everygust.trimming import Trimmed, free_columns
from everygust.vectors import divided, primitive


class Outline:
    """The room of all points that a view shows; it is refused if its lean form has more than most rows.

    found has a pair (vector, source) for each point that was found: what tells it, and where it comes from.
    """

    def __init__(self, view, most=MOST_ROWS):
        self.view = view
        self.most = most
        self.found = []
        self._find()
        base = self._base()
        self.free = free_columns(view.size, base)
        edges = self._edges(2 * len(base)) if self.free else []
        pairs = sorted([(row_of_edge(view.size, self.free, edge), met) for edge, met in edges])
        self.met = [met for _, met in pairs]
        self.trim = Trimmed(view.size, base, [row for row, _ in pairs], None)

    def _find(self):
        # Takes in the point at which the view stands.
        numbers, denominator = self.view.spot()
        self.found.append((primitive([denominator] + numbers), self.view.source()))

    def _is_beyond(self, vector, sign):
        # Whether some point makes the vector's product with it, by this sign, above 0; it is found then.
        value, denominator = self.view.reach([sign * k for k in vector[1:]])
        if value + sign * vector[0] * denominator <= 0:
            return False
        self._find()
        return True

    def _base(self):
        # The equations of all points; as many of these as it takes to tell their flat are found on the way.
        flats = []
        while True:
            vectors = nought_with([vector for vector, _ in self.found], self.view.size + 1)
            left = [vector for vector in vectors if rank(flats + [vector]) > len(flats)]
            if not left:
                return equations_of(flats)
            if not self._is_beyond(left[0], 1) and not self._is_beyond(left[0], -1):
                flats.append(left[0])

    def _edges(self, taken):
        # The edges of the cone of all rows that let all points by; so many rows are there besides.
        edges = first_cone([told_free(vector, self.free) for vector, _ in self.found])
        kept = {}
        while True:
            left = [edge for edge, _ in edges if edge not in kept]
            if not left:
                return edges
            # The newest one is looked at first, so that sides are settled before the hull has many others.
            members, bound = row_of_edge(self.view.size, self.free, left[-1])
            value, denominator = self.view.reach(members)
            if value > bound * denominator:
                self._find()
                row = told_free(self.found[-1][0], self.free)
                edges = met_by(edges, row, len(self.found) - 1, len(row))
                continue
            kept[left[-1]] = True
            if len(kept) + taken > self.most:
                raise TooGreat()

    def room(self):
        """The room of all points, lean."""
        return (self.view.size, tuple(self.trim.rows()))

    def weights_of(self, row):
        """Weights of the view's room that show a row of the lean form."""
        self.view.reach(row[0])
        return self.view.weights()

    def corners(self):
        """The ascending pairs (corner, source), a source told as a point."""
        found = []
        for k in alone_on_sides(self.met, len(self.found)):
            vector, source = self.found[k]
            found.append((divided(vector[1:], vector[0]), divided(source[0], source[1])))
        return ascending_points(found)

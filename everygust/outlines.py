"""Shadows of bounded rooms, from within: points of the room are asked for that lie ever further out.

What is known of the shadow is the hull of the points that were found. Each of its sides is either one of the
shadow's, which the weights of the greatest worth show, or there is a point beyond it, which is found then.
"""

from everygust.cones import first_cone, met_by
from everygust.echelon import nought_with, rank
from everygust.errors import TooGreat
from everygust.spans import alone_on_sides, equations_of, row_of_edge, told_free
from everygust.trimming import Trimmed, free_columns
from everygust.vectors import divided, primitive

MOST_ROWS = 80


class Outline:
    """The shadow, at shown places, of the room of a tableau that stands at a point and in which nothing shown is far.

    found has a pair (vector, point) for each point that was found: what tells its shown coordinates, and the integers
    of all coordinates with their denominator.
    """

    def __init__(self, tableau, shown):
        self.tableau = tableau
        self.shown = shown
        self.found = []
        self._find()
        base = self._base()
        self.free = free_columns(len(shown), base)
        edges = self._edges(2 * len(base)) if self.free else []
        pairs = sorted([(row_of_edge(len(shown), self.free, edge), met) for edge, met in edges])
        self.met = [met for _, met in pairs]
        self.trim = Trimmed(len(shown), base, [row for row, _ in pairs], None)

    def _find(self):
        # Takes in the point at which the tableau stands.
        numbers, denominator = self.tableau.spot()
        vector = primitive([denominator] + [numbers[k] for k in self.shown])
        self.found.append((vector, (tuple(numbers), denominator)))

    def reach(self, form):
        """The pair (number, denominator) of the greatest worth of a form of the shown coordinates."""
        told = [0] * self.tableau.n
        for k, number in zip(self.shown, form):
            told[k] = number
        self.tableau.aim_at(told)
        self.tableau.climb()
        return (self.tableau.aim[0], self.tableau.den)

    def _is_beyond(self, vector, sign):
        # Whether some point makes the vector's product with it, by this sign, above 0; it is found then.
        value, denominator = self.reach([sign * k for k in vector[1:]])
        if value + sign * vector[0] * denominator <= 0:
            return False
        self._find()
        return True

    def _base(self):
        # The equations of the shadow; as many points as it takes to tell its flat are found on the way.
        flats = []
        while True:
            vectors = nought_with([vector for vector, _ in self.found], len(self.shown) + 1)
            left = [vector for vector in vectors if rank(flats + [vector]) > len(flats)]
            if not left:
                return equations_of(flats)
            if not self._is_beyond(left[0], 1) and not self._is_beyond(left[0], -1):
                flats.append(left[0])

    def _edges(self, taken):
        # The edges of the cone of all rows that let the shadow by, which has so many rows besides.
        edges = first_cone([told_free(vector, self.free) for vector, _ in self.found])
        kept = {}
        while True:
            left = [edge for edge, _ in edges if edge not in kept]
            if not left:
                return edges
            # The newest one is looked at first, so that sides are settled before the hull has many others.
            members, bound = row_of_edge(len(self.shown), self.free, left[-1])
            value, denominator = self.reach(members)
            if value > bound * denominator:
                self._find()
                edges = met_by(edges, told_free(self.found[-1][0], self.free), len(self.found) - 1)
                continue
            kept[left[-1]] = True
            if len(kept) + taken > MOST_ROWS:
                raise TooGreat()

    def rows(self):
        """The ascending rows of the shadow's lean form."""
        return self.trim.rows()

    def weights_of(self, row):
        """Weights of the room that show a row of the lean form."""
        self.reach(row[0])
        return divided(self.tableau.weights(), self.tableau.den)

    def corners(self):
        """The pairs (corner, point above it), in no sequence."""
        found = []
        for k in alone_on_sides(self.met, len(self.found)):
            vector, point = self.found[k]
            found.append((divided(vector[1:], vector[0]), divided(point[0], point[1])))
        return found

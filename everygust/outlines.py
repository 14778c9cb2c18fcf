"""Shadows of bounded rooms, from within: points of the room are asked for that lie ever further out.

What is known of the shadow is the hull of the points that were found. Each of its sides is either one of the
shadow's, which the weights of the greatest worth show, or there is a point beyond it, which is found then.
"""

from everygust.cones import first_cone, met_by
from everygust.echelon import nought_with, rank
from everygust.errors import TooGreat
from everygust.trimming import Trimmed, base_of
from everygust.vectors import divided, primitive

MOST_ROWS = 80


class Outline:
    """The shadow, at shown places, of the room of a tableau that stands at a point and in which nothing shown is far.

    found has a pair (vector, point) for each point that was found: the shown coordinates behind a common
    denominator, and the integers of all coordinates with theirs.
    """

    def __init__(self, tableau, shown):
        self.tableau = tableau
        self.shown = shown
        self.found = []
        self._find()
        trim = Trimmed(len(shown), self._base(), [], None)
        self.trim = trim
        self.kept = {}
        self.edges = []
        if trim.free:
            self._begin()
            self._go_on()
        pairs = sorted([(self._row(edge), met) for edge, met in self.edges])
        trim.sides = [row for row, _ in pairs]
        self.met = [met for _, met in pairs]

    def _find(self):
        # Takes in the point at which the tableau stands.
        numbers, denominator = self.tableau.spot()
        vector = primitive([denominator] + [numbers[k] for k in self.shown])
        self.found.append((vector, (tuple(numbers), denominator)))

    def reach(self, form):
        """The pair (number, denominator) of the greatest worth of a form of the shown coordinates."""
        told = [0] * self.tableau.n
        for k, number in zip(self.shown, form):
            told[k] = number
        self.tableau.aim_at(told)
        self.tableau.climb()
        return (self.tableau.aim[0], self.tableau.den)

    def _is_beyond(self, vector, sign):
        # Whether some point makes the vector's product with it, by this sign, above 0; it is found then.
        value, denominator = self.reach([sign * k for k in vector[1:]])
        if value + sign * vector[0] * denominator <= 0:
            return False
        self._find()
        return True

    def _base(self):
        # The equations of the shadow; as many points as it takes to tell its flat are found on the way.
        size = len(self.shown) + 1
        flats = []
        while True:
            vectors = nought_with([vector for vector, _ in self.found], size)
            left = [vector for vector in vectors if rank(flats + [vector]) > len(flats)]
            if not left:
                return base_of([(tuple([-k for k in vector[1:]]), vector[0]) for vector in flats])
            if not self._is_beyond(left[0], 1) and not self._is_beyond(left[0], -1):
                flats.append(left[0])

    def _told_free(self, vector):
        return (vector[0],) + tuple([vector[k + 1] for k in self.trim.free])

    def _row(self, edge):
        members = [0] * len(self.shown)
        for k, number in zip(self.trim.free, edge[1:]):
            members[k] = -number
        return (tuple(members), edge[0])

    def _begin(self):
        self.edges = first_cone([self._told_free(vector) for vector, _ in self.found])

    def _go_on(self):
        while True:
            left = [edge for edge, _ in self.edges if edge not in self.kept]
            if not left:
                return
            # The newest one is looked at first, so that sides are settled before the hull has many others.
            row = self._row(left[-1])
            value, denominator = self.reach(row[0])
            if value == row[1] * denominator:
                self.kept[left[-1]] = True
                if len(self.kept) + 2 * len(self.trim.base) > MOST_ROWS:
                    raise TooGreat()
                continue
            self._find()
            number = len(self.found) - 1
            self.edges = met_by(self.edges, self._told_free(self.found[-1][0]), number)

    def rows(self):
        """The ascending rows of the shadow's lean form."""
        return self.trim.rows()

    def weights_of(self, row):
        """Weights of the room that show a row of the lean form."""
        self.reach(row[0])
        return divided(self.tableau.weights(), self.tableau.den)

    def corners(self):
        """The pairs (corner, point above it), in no sequence."""
        found = []
        every = (1 << len(self.found)) - 1
        for k, (vector, point) in enumerate(self.found):
            common = every
            for met in self.met:
                if met >> k & 1:
                    common &= met
            if common == 1 << k:
                found.append((divided(vector[1:], vector[0]), divided(point[0], point[1])))
        return found

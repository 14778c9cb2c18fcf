"""One step of levels: the standings of the walls from which one wish, told ahead of the gust, leads into a room."""

from everygust.demands import Demands, with_noughts
from everygust.errors import Unbounded
from everygust.outlines import Outline
from everygust.settled import way_of
from everygust.tableau import Tableau
from everygust.trimming import bare_rows
from everygust.views import shown_view


class Pairs:
    """The room of all pairs of a standing of the walls and a wish that leads it into a room below."""

    def __init__(self, plant, walls, below):
        self.n, m = walls[0], plant[4][0]
        self.demands = Demands(plant, below)
        self.counts = (len(below[1]), len(plant[4][1]))
        self.pair_room = (self.n + m, tuple(self.demands.pair_rows(with_noughts(walls, m))))

    def row_paper_of(self, weights):
        """The row paper that weights of this room tell."""
        many, wishes = self.counts
        parts = self.demands.parts(weights[:many], 1)
        return (parts, weights[many:many + wishes], weights[many + wishes:])


class Backing:
    """The room of the standings of pairs, with what shows it.

    bare is None, or weights of the pairs' room that show that there are none; outline has the standings otherwise.
    """

    def __init__(self, pairs):
        self.pairs = pairs
        tableau = Tableau(pairs.pair_room[0], pairs.pair_room[1])
        self.bare = tableau.settle()
        if self.bare is None:
            if way_of(tableau) is not None:
                raise Unbounded()
            self.outline = Outline(shown_view(tableau, list(range(pairs.n))))

    def room(self):
        """The lean room of the standings."""
        n = self.pairs.n
        return (n, bare_rows(n)) if self.bare is not None else self.outline.room()

    def papers(self):
        """The row papers of the rows of the standings' room, in order."""
        if self.bare is not None:
            return (self.pairs.row_paper_of(self.bare),)
        return tuple([self.pairs.row_paper_of(self.outline.weights_of(row)) for row in self.outline.room()[1]])

    def corners(self):
        """The pairs of each corner of the standings' room, ascending, and a wish that leads it into the room below."""
        if self.bare is not None:
            return ()
        return tuple([(corner, pair[self.pairs.n:]) for corner, pair in self.outline.corners()])

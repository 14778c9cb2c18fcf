"""Rows of rooms at points that unknowns tell, room by room, and weights that are shared out among them."""

from everygust.fractions import minus, times
from everygust.papers import added_pair
from everygust.tableau import Tableau
from everygust.unknowns import asked_of, form_sum, worth_told


class Gathered:
    """The rows of some rooms, each asked of a point told by so many unknowns; groups tells how many rows each had."""

    def __init__(self, size):
        self.size = size
        self.rows = []
        self.often = []
        self.groups = []

    def ask(self, room, point):
        """Puts the rows of a room, asked of a told point, behind the others."""
        for row in room[1]:
            told, often = asked_of(row, point, self.size)
            self.rows.append(told)
            self.often.append((often, 1))
        self.groups.append(len(room[1]))

    def tableau(self):
        """A tableau of all rows."""
        return Tableau(self.size, self.rows)

    def shared(self, weights):
        """The list of the weights of each room's own rows that weights of the gathered ones tell."""
        found, begin = [], 0
        told = [times(weight, often) for weight, often in zip(weights, self.often)]
        for many in self.groups:
            found.append(tuple(told[begin:begin + many]))
            begin += many
        return found


def weighed(asked, size):
    """The sum of weight times what a row makes of a point less its bound: a form of the unknowns.

    asked has triples (room, told point, weights of the room).
    """
    found = ((0, 1),) * (size + 1)
    for room, point, weights in asked:
        form, bound = added_pair(room, weights)
        told = worth_told(form, point, size)
        found = form_sum(found, told[:-1] + (minus(told[-1], bound),))
    return found


def is_number(form):
    """Whether a form has no unknown."""
    return not any(k[0] for k in form[:-1])

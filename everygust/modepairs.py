"""Standings and wishes under several modes: one wish for each mode if it is heard, one for all if it is hid."""

from everygust.demands import Demands
from everygust.tableau import Tableau
from everygust.vectors import divided


def wish_places(modes, kind):
    """For each mode the number of the first coordinate of its wish among all, and behind them how many there are."""
    if kind == "hid":
        return [0] * len(modes) + [modes[0][4][0]]
    found = [0]
    for plant in modes:
        found.append(found[-1] + plant[4][0])
    return found


class ModePairs:
    """The room of all pairs of a standing of the walls and a wish, or wishes, that lead it into a room below.

    The rows stand mode by mode, those of the room below ahead of those of the wishes, and the walls' behind them.
    """

    def __init__(self, modes, kind, walls, below):
        self.n = walls[0]
        self.demands = [Demands(plant, below) for plant in modes]
        self.counts = [(len(below[1]), len(plant[4][1])) for plant in modes]
        places = wish_places(modes, kind)
        rows = []
        for told, begin in zip(self.demands, places):
            ahead, behind = (0,) * begin, (0,) * (places[-1] - begin - told.plant[4][0])
            for row in told.tightened:
                rows.append((row[0] + ahead + row[1] + behind, row[2]))
            rows.extend([((0,) * self.n + ahead + a + behind, b) for a, b in told.plant[4][1]])
        rows.extend([(a + (0,) * places[-1], b) for a, b in walls[1]])
        self.pair_room = (self.n + places[-1], tuple(rows))

    def row_paper_of(self, weights):
        """The row paper that weights of this room tell."""
        parts, nus, begin = [], [], 0
        for m, (told, (rows, wishes)) in enumerate(zip(self.demands, self.counts)):
            parts.extend([(m,) + part for part in told.parts(weights[begin:begin + rows], 1)])
            nus.append(weights[begin + rows:begin + rows + wishes])
            begin += rows + wishes
        return (tuple(parts), tuple(nus), weights[begin:])


def wish_of_all(modes, room, x):
    """A wish of all modes that leads a standing into a room with each of them, None if there is none."""
    rows = [row for plant in modes for row in Demands(plant, room).wish_rows(x)]
    tableau = Tableau(modes[0][4][0], rows)
    if tableau.settle() is not None:
        return None
    numbers, denominator = tableau.spot()
    return divided(numbers, denominator)

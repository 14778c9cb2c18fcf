"""Tables whose helm sees in figures alone: cells of standings that are seen alike, and the first fault."""

from everygust.figures import strays
from everygust.forms import is_number_of, is_point, is_told
from everygust.fractions import fraction_of
from everygust.leading import Leading
from everygust.limits import bounded_tableau
from everygust.regions import in_region, region_point
from everygust.rows import is_in
from everygust.slabs import Sliced, corner_vectors, rounded_number
from everygust.tables import told_at
from everygust.vectors import divided, unit


def cells_of(room):
    """A bounded room, sliced by its coordinates."""
    n = room[0]
    return Sliced(n, room[1], tuple([(divided(unit(n, k, 1), 1), (0, 1)) for k in range(n)]))


def _sound_cells(room, q):
    bounded_tableau(room)
    found = cells_of(room)
    found.refuse_wide(q)
    return found


def _grid_point(t, q):
    return tuple([fraction_of(m, q) for m in t])


def cells(room, q):
    """The list of the pairs (g, closed) of the cells of a room, ascending by g."""
    return [(_grid_point(t, q), closed) for t, closed in _sound_cells(room, q).closed_rooms(q)]


def _integers(g, q):
    # The integers that tell a point of the grid, q-ths.
    return tuple([rounded_number(k, q) for k in g])


def cell_standing(room, q, g):
    """A point of the cell of a point of the grid, None if it has none."""
    return region_point(_sound_cells(room, q).region(q, _integers(g, q)))


class Seeing:
    """Whether a table leads a bounded room into a goal if it is seen in figures, by any q."""

    def __init__(self, plant, room, goal, table):
        bounded_tableau(room)
        self.plant = plant
        self.table = table
        self.cells = cells_of(room)
        self.leading = Leading(plant, goal)

    def fault(self, q):
        """The first fault, None if the table leads."""
        self.cells.refuse_wide(q)
        return self.cells.first(q, lambda t, zone: self._cell_fault(q, t, zone))

    def _cell_fault(self, q, t, zone):
        g = _grid_point(t, q)
        told = told_at(self.table, g)
        if not told:
            return ("blank", g)
        for i, u in told:
            if not is_in(self.plant[4], u):
                return ("wish", g, i)
            row = self.leading.broken(corner_vectors(zone), u)
            if row is not None:
                return ("next", g, i) + self.leading.strayed(self.cells.region(q, t), row, u)
        return None


def seen_fault(plant, room, goal, table, q):
    """The first fault of a table seen in figures of q from a room into a goal, None if it leads."""
    return Seeing(plant, room, goal, table).fault(q)


def shows_seen(plant, room, goal, table, q, value):
    """Whether a value, which may be anything, is the first fault of a table seen in figures of q."""
    seeing = Seeing(plant, room, goal, table)
    due = seeing.fault(q)
    if due is None or not is_told(value, due[0], len(due)):
        return False
    if not is_point(room[0], value[1]) or value[1] != due[1]:
        return False
    if due[0] == "blank":
        return True
    if not is_number_of(value[2], len(table)) or value[2] != due[2]:
        return False
    return due[0] == "wish" or _strays(seeing, goal, q, value)


def _strays(seeing, goal, q, value):
    # Whether a point and a gust are such as a fault of this point of the grid and this piece must tell.
    _, g, i, x, gust = value
    region = seeing.cells.region(q, _integers(g, q))
    if not is_point(region[0], x) or not in_region(region, x):
        return False
    u = dict(told_at(seeing.table, g))[i]
    return strays(seeing.plant, goal, x, u, gust)


def least_seen(plant, room, goal, table, most):
    """The least q of at most most with which a table seen in figures leads a room into a goal, None without one."""
    seeing = Seeing(plant, room, goal, table)
    for q in range(1, most + 1):
        if seeing.fault(q) is None:
            return q
    return None

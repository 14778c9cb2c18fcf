"""Tables whose wishes are rounded to figures: strips of standings that are told alike, and the first fault."""

from everygust.forms import is_number_of, is_point, is_told, is_tuple_of, is_whole
from everygust.fractions import fraction_of
from everygust.leading import Leading
from everygust.limits import bounded_tableau
from everygust.lots import lot_at, lot_within
from everygust.regions import in_region, region_point
from everygust.rows import first_broken, is_in, next_of
from everygust.slabs import Sliced, corner_vectors, rounded_number
from everygust.tables import told_at


def rounded(t, q):
    """A fraction rounded to q-ths."""
    return fraction_of(rounded_number(t, q), q)


def rounded_point(point, q):
    """A point rounded to q-ths, coordinate by coordinate."""
    return tuple([rounded(t, q) for t in point])


def strips_of(piece, room):
    """A bounded room, sliced by what a piece tells within its own room."""
    return Sliced(room[0], room[1] + piece[0][1], tuple(zip(piece[1], piece[2])))


def _sound_strips(piece, room, q):
    bounded_tableau(room)
    found = strips_of(piece, room)
    found.refuse_wide(q)
    return found


def strips(piece, room, q):
    """The list of the strips of a piece in a room, pairs (t, closed), ascending by t."""
    return _sound_strips(piece, room, q).closed_rooms(q)


def strip_standing(piece, room, q, t):
    """A standing of the strip of t, None if it is none."""
    return region_point(_sound_strips(piece, room, q).region(q, t))


def rounded_wishes(table, q, point):
    """The list of the pairs (i, wish): what the pieces that have a point tell there, rounded."""
    return [(i, rounded_point(wish, q)) for i, wish in told_at(table, point)]


class Rounding:
    """Whether a table leads a bounded room into a goal if it is rounded, by any q."""

    def __init__(self, plant, room, goal, table):
        bounded_tableau(room)
        self.plant = plant
        self.room = room
        self.goal = goal
        self.lot = tuple([piece[0] for piece in table])
        self.strips = [strips_of(piece, room) for piece in table]
        self.leading = Leading(plant, goal)

    def refuse_wide(self, q):
        """Refuses the table if a piece of it is too wide."""
        for told in self.strips:
            told.refuse_wide(q)

    def hole(self):
        """A point of the room that no piece has, None if there is none."""
        return lot_within((self.room,), self.lot)

    def fault_by(self, q):
        """The first fault of a strip, told with its piece, None if there is none."""
        for i, told in enumerate(self.strips):
            found = told.first(q, lambda t, zone: self._strip_fault(told, q, t, zone))
            if found is not None:
                return (found[0], i) + found[1:]
        return None

    def _strip_fault(self, told, q, t, zone):
        u = tuple([fraction_of(m, q) for m in t])
        if not is_in(self.plant[4], u):
            return ("wish", t, region_point(told.region(q, t)))
        row = self.leading.broken(corner_vectors(zone), u)
        if row is None:
            return None
        return ("next", t) + self.leading.strayed(told.region(q, t), row, u)

    def fault(self, q):
        """The first fault, None if the table leads."""
        self.refuse_wide(q)
        hole = self.hole()
        return self.fault_by(q) if hole is None else ("hole", hole)


def first_fault(plant, room, goal, table, q):
    """The first fault of a table rounded to q-ths from a room into a goal, None if it leads."""
    return Rounding(plant, room, goal, table).fault(q)


def shows_fault(plant, room, goal, table, q, value):
    """Whether a value, which may be anything, is the first fault of a table rounded to q-ths."""
    rounding = Rounding(plant, room, goal, table)
    due = rounding.fault(q)
    if due is None or not is_told(value, due[0], len(due)):
        return False
    if due[0] == "hole":
        return _is_hole(rounding, value[1])
    if not is_number_of(value[1], len(table)) or value[1] != due[1]:
        return False
    if not is_tuple_of(value[2], len(due[2])) or not all(is_whole(m) for m in value[2]) or value[2] != due[2]:
        return False
    if not is_point(room[0], value[3]) or not in_region(rounding.strips[due[1]].region(q, due[2]), value[3]):
        return False
    return due[0] == "wish" or strays(plant, goal, value[3], [fraction_of(m, q) for m in due[2]], value[4])


def _is_hole(rounding, value):
    if not is_point(rounding.room[0], value) or not is_in(rounding.room, value):
        return False
    return lot_at(rounding.lot, value) is None


def strays(plant, goal, x, u, value):
    """Whether a value, which may be anything, is a gust that leads a standing out of a goal behind a wish."""
    if not is_point(plant[5][0], value) or not is_in(plant[5], value):
        return False
    return first_broken(goal, next_of(plant, x, u, value)) is not None


def least_figures(plant, room, goal, table, most):
    """The least q of at most most with which a table rounded leads a room into a goal, None if there is none."""
    rounding = Rounding(plant, room, goal, table)
    has_hole = rounding.hole() is not None
    for q in range(1, most + 1):
        rounding.refuse_wide(q)
        if not has_hole and rounding.fault_by(q) is None:
            return q
    return None

"""Tables of wishes: pieces that tell a wish at each standing of their rooms, made, judged, compared and thinned."""

from everygust.cuts import cut
from everygust.demands import Demands, first_out
from everygust.echelon import nought_with
from everygust.errors import TooGreat
from everygust.fractions import fraction_of, minus
from everygust.hulls import hull
from everygust.lean import equations
from everygust.lots import lot_within
from everygust.means import above_one
from everygust.regions import region_point, zones_less
from everygust.rows import image_of, is_in, row_of
from everygust.solids import corners_if_any, room_corners, solid_of
from everygust.trimming import free_columns, shown_at
from everygust.weights import is_bare
from everygust.wishes import good_wish

MOST_SIMPLICES = 300


def _told(piece, x):
    # What a piece tells at a standing, in its room or not.
    return image_of(piece[1], x, piece[2])


def told_at(table, x):
    """The list of the pairs (number of a piece, wish) for all pieces that have a standing."""
    return [(i, _told(piece, x)) for i, piece in enumerate(table) if is_in(piece[0], x)]


def _form_through(told, wishes, j):
    # The numbers of the form that has number j of the wishes at points, told by their free coordinates: first that
    # which stands alone, then one for each of these.
    rows = []
    for vector, wish in zip(told, wishes):
        p, q = wish[j]
        rows.append(tuple([q * k for k in vector]) + (-p * vector[0],))
    found = nought_with(rows, len(told) + 1)[0]
    return [fraction_of(k, found[-1]) for k in found[:-1]]


def piece_of(points, wishes):
    """The plain piece that tells wishes at points, none of which lies in the flat of the others."""
    n = len(points[0])
    room = hull(n, points)
    free = free_columns(n, equations(room))
    told = [above_one(shown_at(point, free)) for point in points]
    lines, still = [], []
    for j in range(len(wishes[0])):
        numbers = _form_through(told, wishes, j)
        by_column = dict(zip(free, numbers[1:]))
        lines.append(tuple([by_column.get(k, (0, 1)) for k in range(n)]))
        still.append(numbers[0])
    return (room, tuple(lines), tuple(still))


def made_table(plant, room, target):
    """A right table from a bounded room into a target, None if there is none."""
    if is_bare(room):
        return ()
    corners = solid_of(room).points
    simplices = cut(room)
    if len(simplices) > MOST_SIMPLICES:
        raise TooGreat()
    demands = Demands(plant, target)
    wishes = [good_wish(demands, corner) for corner in corners]
    if any(wish is None for wish in wishes):
        return None
    return tuple([piece_of([corners[k] for k in some], [wishes[k] for k in some]) for some in simplices])


def _common(room, other):
    # The rows of both rooms, as they are told.
    return (room[0], room[1] + other[1])


def _piece_fault(plant, target, told):
    # told has for each piece its standings and what it tells there; wishes are looked at ahead of where they lead.
    for i, pairs in enumerate(told):
        for x, wish in pairs:
            if not is_in(plant[4], wish):
                return ("wish", i, x)
    gusts = room_corners(plant[5])
    for i, pairs in enumerate(told):
        for x, wish in pairs:
            gust = first_out(plant, gusts, x, wish, target)
            if gust is not None:
                return ("next", i, x, gust)
    return None


def judge_table(plant, room, target, table):
    """None if a table is right from a bounded room into a target; otherwise its first fault."""
    if is_bare(room):
        return None
    # This refuses a room that is unbounded, or has too many corners.
    n = solid_of(room).n
    holes = zones_less((n, room[1], ()), [piece[0] for piece in table])
    if holes:
        return ("hole", region_point(holes[0].region))
    told = []
    for piece in table:
        told.append([(x, _told(piece, x)) for x in corners_if_any(_common(room, piece[0]))])
    return _piece_fault(plant, target, told)


def _at_most_row(line, k, other_line, j):
    # The row of the points at which a number of the one piece is at most that of the other one.
    return row_of(tuple([minus(p, q) for p, q in zip(line, other_line)]), minus(j, k))


def _same_rows(piece, other):
    # The rows of the points at which two pieces tell the same.
    rows = []
    for line, k, other_line, j in zip(piece[1], piece[2], other[1], other[2]):
        rows.append(_at_most_row(line, k, other_line, j))
        rows.append(_at_most_row(other_line, j, line, k))
    return tuple(rows)


def _untold(piece, others, room):
    # A point of a room at which a piece tells what none of some others does, None if there is none.
    lot = [(room[0], other[0][1] + _same_rows(piece, other)) for other in others]
    return lot_within((_common(room, piece[0]),), tuple(lot))


def alike(table, other, room):
    """None if two tables are alike in a bounded room, otherwise a point of it at which they tell unlike wishes."""
    for one, two in ((table, other), (other, table)):
        for piece in one:
            point = _untold(piece, two, room)
            if point is not None:
                return point
    return None


def thinned(table, room):
    """The table without the pieces that are needless in a bounded room, looked for from the first one on."""
    left, k = list(table), 0
    while k < len(left):
        rest = left[:k] + left[k + 1:]
        if _untold(left[k], rest, room) is None:
            left = rest
        else:
            k += 1
    return tuple(left)


def seam(table, room):
    """None if a table is seamless in a bounded room; otherwise the first two pieces that are not, and a point."""
    for i, piece in enumerate(table):
        for j in range(i + 1, len(table)):
            for x in corners_if_any(_common(_common(room, piece[0]), table[j][0])):
                if _told(piece, x) != _told(table[j], x):
                    return (i, j, x)
    return None


class TableHelm:
    """A helm by tables, that of one step left first."""

    def __init__(self, tables):
        self.tables = tuple(tables)

    def tell(self, left, x):
        """What the first piece that has a standing tells, None if none has it."""
        found = told_at(self.tables[left - 1], x)
        return found[0][1] if found else None

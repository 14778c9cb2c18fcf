"""Bounded rooms with points, told by corners and by the rows of the lean form that are tight at them."""

from everygust.cones import cone_of
from everygust.echelon import head_of
from everygust.errors import Bare, TooGreat, Unbounded
from everygust.limits import MOST_CORNERS
from everygust.settled import settled, way_of
from everygust.trimming import shown_at, trimmed
from everygust.vectors import divided


class Solid:
    """A room told by what trimming tells of it, and by its ascending corners.

    Each corner is a pair (point, met): binary figure number k of met is 1 if side number k is tight there.
    """

    def __init__(self, trim, corners):
        self.n = trim.n
        self.trim = trim
        self.dimension = len(trim.free)
        self.points = [point for point, _ in corners]
        self.met = [met for _, met in corners]

    def side_corners(self, number):
        """The corners at which a side is tight, as binary figures of an integer."""
        return sum([1 << k for k, met in enumerate(self.met) if met >> number & 1])


def _full_point(trim, vector):
    # The point of all coordinates that an edge tells at the free columns, a number for all of them ahead.
    scale = vector[0]
    found = {}
    for k, number in zip(trim.free, vector[1:]):
        found[k] = (number, scale)
    for a, b in trim.base:
        head = head_of(a)
        rest = sum([a[k] * number for k, number in zip(trim.free, vector[1:])])
        found[head] = (b * scale - rest, a[head] * scale)
    return tuple([divided((found[k][0],), found[k][1])[0] for k in range(trim.n)])


def is_ahead(one, other):
    """Whether a point comes before another one, coordinate by coordinate as numbers."""
    for (p, q), (r, s) in zip(one, other):
        if p * s != r * q:
            return p * s < r * q
    return False


def ascending_points(pairs):
    """Pairs that begin with points, ascending by these."""
    if len(pairs) < 2:
        return list(pairs)
    half = len(pairs) // 2
    one, other = ascending_points(pairs[:half]), ascending_points(pairs[half:])
    found, j = [], 0
    for pair in one:
        while j < len(other) and is_ahead(other[j][0], pair[0]):
            found.append(other[j])
            j += 1
        found.append(pair)
    return found + other[j:]


def bounded_trim(room):
    """A room told by base and sides; refuses rooms without points, and unbounded ones."""
    trim = trimmed(room)
    if trim is None:
        raise Bare()
    if way_of(trim.tableau) is not None:
        raise Unbounded()
    return trim


def all_corners(trim):
    """The ascending corners of a bounded room, as a solid keeps them."""
    if not trim.free:
        return [(_full_point(trim, (1,)), 0)]
    rows = [(b,) + tuple([-k for k in shown_at(a, trim.free)]) for a, b in trim.sides]
    return ascending_points([(_full_point(trim, vector), met) for vector, met in cone_of(rows)])


def room_corners(room):
    """The ascending corners of a bounded room with points, however many it has."""
    return [point for point, _ in all_corners(bounded_trim(room))]


def corners_if_any(room):
    """The ascending corners of a bounded room, however many it has, perhaps none."""
    return [] if settled(room) is None else room_corners(room)


def solid_of(room):
    """A room told by its corners; refuses rooms without points, unbounded ones, and those with too many corners."""
    trim = bounded_trim(room)
    corners = all_corners(trim)
    if len(corners) > MOST_CORNERS:
        raise TooGreat()
    return Solid(trim, corners)

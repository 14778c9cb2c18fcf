"""The fewest points that a room with whole numbers to s has around another one, and the points of grids in rooms."""

from everygust.errors import TooGreat
from everygust.fractions import ceiling_of, floor_of, highest, lowest, times
from everygust.limits import bounded_tableau, few_lean
from everygust.solids import is_ahead, room_corners
from everygust.solving import form_worth
from everygust.trimming import bare_rows
from everygust.vectors import divided, dot

MOST_GRID = 20000


def _sound_corners(room):
    # The corners of a bounded room, none if it is bare; refuses an unbounded one.
    return [] if bounded_tableau(room) is None else room_corners(room)


def _tuples(n, s):
    # All tuples of n integers from -s to s, but that of noughts.
    found = [()]
    for _ in range(n):
        found = [a + (k,) for a in found for k in range(-s, s + 1)]
    return [a for a in found if any(a)]


def around(room, s):
    """The room of the fewest points, among those whose rows have members from -s to s, that has all of a room's."""
    n = room[0]
    corners = _sound_corners(room)
    if not corners:
        return (n, bare_rows(n))
    rows = []
    for a in _tuples(n, s):
        form = divided(a, 1)
        rows.append((a, ceiling_of(highest([form_worth(form, corner) for corner in corners]))))
    return few_lean((n, tuple(rows)))


def _between(q, least, greatest):
    # The integers m with m / q from a fraction to another one, as a pair of the first and the one behind the last.
    return (ceiling_of(times((q, 1), least)), floor_of(times((q, 1), greatest)) + 1)


class Grid:
    """The points of the grid of q in a bounded room, told by integers: q times their coordinates.

    ranges has for each coordinate the first integer that the box of the room lets by, and the one behind the last;
    many tells how many points of the grid the box has, none if the room is bare.
    """

    def __init__(self, room, q):
        corners = _sound_corners(room)
        self.rows = [(a, b * q) for a, b in room[1]]
        self.ranges = []
        self.many = 1 if corners else 0
        for k in range(room[0] if corners else 0):
            told = [corner[k] for corner in corners]
            self.ranges.append(_between(q, lowest(told), highest(told)))
            self.many *= max(0, self.ranges[-1][1] - self.ranges[-1][0])
        if self.many > MOST_GRID:
            raise TooGreat()

    def lines(self):
        """The ascending list of the triples (all integers but the last one, begin, end) for the points of the room.

        The last integer goes from begin on, and ends ahead of end. There is at least one coordinate.
        """
        if not self.many:
            return []
        heads = [()]
        for begin, end in self.ranges[:-1]:
            heads = [head + (m,) for head in heads for m in range(begin, end)]
        return [(head,) + self._last_range(head) for head in heads]

    def _last_range(self, head):
        begin, end = self.ranges[-1]
        for a, b in self.rows:
            left = b - dot(a, head)
            if a[-1] > 0:
                end = min(end, left // a[-1] + 1)
            elif a[-1] < 0:
                begin = max(begin, -(left // -a[-1]))
            elif left < 0:
                return (0, 0)
        return (begin, end)


def grid_points(room, q):
    """The ascending list of the points of the grid of q in a bounded room."""
    grid = Grid(room, q)
    if room[0] == 0:
        return [()] * grid.many
    return [divided(head + (m,), q) for head, begin, end in grid.lines() for m in range(begin, end)]


def grid_count(room, q):
    """How many points of the grid of q a bounded room has."""
    grid = Grid(room, q)
    if room[0] == 0:
        return grid.many
    return sum([max(0, end - begin) for _, begin, end in grid.lines()])


def grid_from(room, q, point):
    """The first point of the grid of q in a bounded room that is not less than a point, None if there is none."""
    for one in grid_points(room, q):
        if not is_ahead(one, point):
            return one
    return None

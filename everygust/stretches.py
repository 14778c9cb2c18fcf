"""Rooms at shares about a point of theirs: what a plant asks of shares, corner by corner of the room."""

from everygust.corners import centre
from everygust.demands import Demands
from everygust.fractions import highest, is_less, minus, plus, times
from everygust.rows import reach, row_of, slack
from everygust.solids import room_corners
from everygust.solving import greatest_at
from everygust.tableau import Tableau
from everygust.trimming import bare_rows
from everygust.vectors import divided, unit, whole


def rows_at(room, about, t):
    """The room at a share about a point, with its rows in order."""
    rows = []
    for row in room[1]:
        reached = reach(row, about)
        bound = plus(reached, times(t, minus((row[1], 1), reached)))
        rows.append(row_of(divided(row[0], 1), bound))
    return (room[0], tuple(rows))


def point_at(about, t, corner):
    """Where a point is if it is taken to a share about another one."""
    return tuple([plus(z, times(t, minus(y, z))) for y, z in zip(corner, about)])


class Shares:
    """What a plant asks of the shares of a bounded room, not bare, about a point of it.

    gaps has the slacks of the room's rows at this point.
    """

    def __init__(self, plant, room, about):
        self.plant = plant
        self.about = about
        self.demands = Demands(plant, room)
        self.corners = room_corners(room)
        self.gaps = [slack(row, about) for row in room[1]]
        self.m = plant[4][0]

    def _rows(self, firsts, bounds):
        # The rows for a share and a wish: firsts and bounds have for each row of the room what stands before the share
        # and behind, often has how many times each was taken. Behind these stand the wishes' rows and the share's.
        rows, often = [], []
        for row, first, bound in zip(self.demands.tightened, firsts, bounds):
            numbers, scale = whole((first,) + divided(row[1], 1) + (bound,))
            rows.append((numbers[:-1], numbers[-1]))
            often.append(times(row[3], (scale, 1)))
        rows.extend([((0,) + a, b) for a, b in self.plant[4][1]])
        rows.append((unit(1 + self.m, 0, -1), 0))
        return (rows, often)

    def _left_at(self, x):
        # What each row leaves to wishes at a standing, if the room is at the share 0.
        found = []
        for row, gap in zip(self.demands.tightened, self.gaps):
            lost = plus(times(row[3], gap), reach((row[0], 0), x))
            found.append(minus((row[2], 1), lost))
        return found

    def least_from(self, x):
        """The least share at which some wish leads a standing into the room, None if there is none."""
        firsts = [times((-1, 1), times(row[3], gap)) for row, gap in zip(self.demands.tightened, self.gaps)]
        tableau = Tableau(1 + self.m, self._rows(firsts, self._left_at(x))[0])
        if tableau.settle() is not None:
            return None
        return minus((0, 1), greatest_at(tableau, self._end(-1))[1])

    def share_at(self, t):
        """The share of t, None if there is none."""
        found = []
        for corner in self.corners:
            found.append(self.least_from(point_at(self.about, t, corner)))
            if found[-1] is None:
                return None
        return highest(found)

    def _end(self, sign):
        return divided(unit(1 + self.m, 0, sign), 1)

    def _stop(self, corner, weights, often):
        # The stop that weights of a corner's rows tell.
        many, parts = len(often), []
        for i, weight in enumerate(weights[:many]):
            if weight[0] > 0:
                parts.append((i, times(weight, often[i]), self.demands.tightened[i][4]))
        return (corner, tuple(parts), tuple(weights[many:-1]), weights[-1])

    def ends_at(self, corner):
        """The ends of the shares that a corner lets be kept: ("ends", low, high), or ("none", stop).

        An end is a pair (share, stop); high is None where there is no greatest share.
        """
        away = tuple([minus(y, z) for y, z in zip(corner, self.about)])
        firsts = []
        for row, gap in zip(self.demands.tightened, self.gaps):
            firsts.append(minus(reach((row[0], 0), away), times(row[3], gap)))
        rows, often = self._rows(firsts, self._left_at(self.about))
        tableau = Tableau(1 + self.m, rows)
        bare = tableau.settle()
        if bare is not None:
            return ("none", self._stop(corner, bare, often))
        low, high = greatest_at(tableau, self._end(-1)), greatest_at(tableau, self._end(1))
        least = (minus((0, 1), low[1]), self._stop(corner, low[3], often))
        if high[0] == "far":
            return ("ends", least, None)
        return ("ends", least, (high[1], self._stop(corner, high[3], often)))

    def kept(self):
        """The ends of the kept shares: ("kept", low, high) as in ends_at, or what shows that there are none.

        This is ("none", stop), or ("apart", stop, stop).
        """
        low, high = None, None
        for corner in self.corners:
            told = self.ends_at(corner)
            if told[0] == "none":
                return told
            if low is None or is_less(low[0], told[1][0]):
                low = told[1]
            if told[2] is not None and (high is None or is_less(told[2][0], high[0])):
                high = told[2]
        if high is not None and is_less(high[0], low[0]):
            return ("apart", low[1], high[1])
        return ("kept", low, high)

    def wishes_at(self, t):
        """For each corner a wish by which the room is kept at a kept share, in order."""
        rest, found = minus((0, 1), t), []
        for corner in self.corners:
            left = self._left_at(point_at(self.about, t, corner))
            rows = []
            for row, gap, bound in zip(self.demands.tightened, self.gaps, left):
                room_for = minus(bound, times(rest, times(row[3], gap)))
                numbers, _ = whole(divided(row[1], 1) + (room_for,))
                rows.append((numbers[:-1], numbers[-1]))
            tableau = Tableau(self.m, rows + list(self.plant[4][1]))
            tableau.settle()
            numbers, denominator = tableau.spot()
            found.append(divided(numbers, denominator))
        return tuple(found)


def kept_within(plant, room):
    """The room, not bare, at the greatest share of at most 1 about its centre at which it is kept; bare without one."""
    about = centre(room)
    kept = Shares(plant, room, about).kept()
    if kept[0] != "kept" or is_less((1, 1), kept[1][0]):
        return (room[0], bare_rows(room[0]))
    t = (1, 1)
    if kept[2] is not None and is_less(kept[2][0], t):
        t = kept[2][0]
    return rows_at(room, about, t)

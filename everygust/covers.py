"""Whether rooms cover a room: it is split by their rows until each part lies in one of them, or a point is in none.

A part is the closed room of a tableau's rows. Each split leaves points on both sides of its row, so that parts have
the dimension of the room; a room that has less of it in a part can go, as the others cover all of the part if they
cover all but that: they are closed.
"""

from everygust.regions import region_point
from everygust.settled import always_tight, tight_among
from everygust.tableau import Tableau
from everygust.vectors import divided
from everygust.zones import turned, zone_of


def _is_followed(tableau, row):
    # Whether a row follows from a part.
    tableau.aim_at(row[0])
    return tableau.climb() == 0 and tableau.aim[0] <= row[1] * tableau.den


def _is_thin(tableau, rows):
    # Whether rows that don't follow from a part leave less of it than its dimension.
    meeting = tableau.twin()
    for row in rows:
        meeting.take_in(row)
    if meeting.settle() is not None:
        return True
    return bool(tight_among(meeting, list(range(tableau.many, meeting.many))))


def _with_row(tableau, row):
    found = tableau.twin()
    found.take_in(row)
    found.settle()
    return found


def _leaf(tableau, j, room):
    # A part that lies in room number j, with weights for each of its rows.
    lots = []
    for row in room[1]:
        tableau.aim_at(row[0])
        tableau.climb()
        lots.append(divided(tableau.weights(), tableau.den))
    return ("in", j, tuple(lots))


class Cover:
    """The rooms of a lot, by which a room is split."""

    def __init__(self, n, lot):
        self.n = n
        self.lot = lot

    def tree(self, rows):
        """The pair (tree, None) for some rows, or (None, point) with a point of theirs that the lot hasn't."""
        tableau = Tableau(self.n, rows)
        bare = tableau.settle()
        if bare is not None:
            return (("bare", bare), None)
        return self._split(tableau, rows, [(j, list(room[1])) for j, room in enumerate(self.lot)])

    def _split(self, tableau, rows, left):
        # left has the rooms that may be needed here, each with those of its rows that may not follow.
        cutting = []
        for j, told in left:
            some = [row for row in told if not _is_followed(tableau, row)]
            if not some:
                return (_leaf(tableau, j, self.lot[j]), None)
            if not _is_thin(tableau, some):
                cutting.append((j, some))
        if not cutting:
            return (None, self._beyond(tableau, rows))
        j, some = min(cutting, key=lambda pair: len(pair[1]))
        row, others = some[0], [pair for pair in cutting if pair[0] != j]
        low, point = self._split(_with_row(tableau, row), rows + (row,), [(j, some[1:])] + others)
        if low is None:
            return (None, point)
        high, point = self._split(_with_row(tableau, turned(row)), rows + (turned(row),), others)
        return (None, point) if high is None else (("split", row, low, high), None)

    def _beyond(self, tableau, rows):
        # A point of a part that no room has; all of them are thin within it.
        tight = always_tight(tableau)
        strict = tuple([row for k, row in enumerate(rows) if k not in tight])
        inner = zone_of((self.n, tuple([rows[k] for k in tight]), strict))
        return region_point(self._outside(inner, list(self.lot)).region)

    def _outside(self, zone, rooms):
        # A zone within this one that meets none of some rooms, None if there is none.
        meeting = [room for room in rooms if zone.common(room) is not None]
        if not meeting:
            return zone
        for one in zone.less(meeting[0]):
            found = self._outside(one, meeting[1:])
            if found is not None:
                return found
        return None

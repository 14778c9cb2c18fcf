"""Rooms at shares about a point of theirs: what a plant asks of shares, corner by corner of the room."""

from everygust.corners import centre
from everygust.demands import Demands
from everygust.fractions import is_less, minus, plus, times
from everygust.guesses import is_great, likely_inside, likely_tight, rounded_row
from everygust.lean import lean
from everygust.rows import boxed, is_in, reach, row_of
from everygust.solids import room_corners
from everygust.solving import greatest_of
from everygust.tableau import Tableau
from everygust.trimming import bare_rows
from everygust.vectors import divided, dot, unit, whole

# Shares that are told nearly are compared by so many parts of 1.
FINE = 100000000000000000000


def rows_at(room, about, t):
    """The room at a share about a point, with its rows in order."""
    rows = []
    for row in room[1]:
        reached = reach(row, about)
        bound = plus(reached, times(t, minus((row[1], 1), reached)))
        rows.append(row_of(divided(row[0], 1), bound))
    return (room[0], tuple(rows))


def lean_at(room, about, t):
    """A lean room with points at a share about a point of it, lean: above 0 the same rows are needed."""
    if t[0] == 0:
        return lean(boxed(about, about))
    return (room[0], tuple(sorted(rows_at(room, about, t)[1])))


def point_at(about, t, corner):
    """Where a point is if it is taken to a share about another one."""
    return tuple([plus(z, times(t, minus(y, z))) for y, z in zip(corner, about)])


class Asked:
    """What the rows of a room ask of a share and a wish from somewhere, in integers, and the wishes' own rows.

    often has for each row of the room how many times it was taken. The share, at least 0, stands ahead of the wish.
    """

    def __init__(self, wishes, rows, often):
        self.m = wishes[0]
        self.own = rows
        self.often = often
        self.wishes = wishes[1]
        self.rows = rows + [((0,) + a, b) for a, b in wishes[1]] + [(unit(1 + self.m, 0, -1), 0)]

    def end(self, sign):
        """The answer to how great the share can be, or, with the sign -1, how great it is with its sign turned."""
        return greatest_of(1 + self.m, self.rows, divided(unit(1 + self.m, 0, sign), 1))

    def likely_ends(self):
        """The least and the greatest share, as far as the first binary figures tell; None for one that they don't."""
        found = []
        for sign in (-1, 1):
            rows = [rounded_row(row) for row in self.rows]
            answer = greatest_of(1 + self.m, rows, divided(unit(1 + self.m, 0, sign), 1))
            found.append(times((sign, 1), answer[1]) if answer[0] == "most" else None)
        return found

    def is_endless(self):
        """Whether no row bars great shares."""
        return all(row[0][0] <= 0 for row in self.own)

    def _at(self, t):
        # The rows of a wish at a share.
        rows = [(tuple([k * t[1] for k in a[1:]]), b * t[1] - a[0] * t[0]) for a, b in self.own]
        return rows + list(self.wishes)

    def wish_at(self, t):
        """A wish at a share, None if there is none."""
        rows = self._at(t)
        if is_great(rows):
            found = likely_inside(self.m, rows)
            if found is not None and is_in((self.m, rows), found):
                return found
        tableau = Tableau(self.m, rows, likely_tight(self.m, rows, ((0, 1),) * self.m))
        if tableau.settle() is not None:
            return None
        numbers, denominator = tableau.spot()
        return divided(numbers, denominator)


class Shares:
    """What a plant asks of the shares of a bounded room, not bare, about a point of it.

    numbers and den tell this point; gaps has the slacks of the room's rows at it, den times.
    """

    def __init__(self, plant, room, about):
        self.plant = plant
        self.about = about
        self.numbers, self.den = whole(about)
        self.tightened = Demands(plant, room).tightened
        self.corners = room_corners(room)
        self.gaps = [b * self.den - dot(a, self.numbers) for a, b in room[1]]

    def _asked(self, shared, firsts, bounds):
        # All rows, each taken shared times, the integers behind their scales times, too.
        rows = []
        for row, first, bound in zip(self.tightened, firsts, bounds):
            taken = row[3][1] * shared
            rows.append(((first,) + tuple([k * taken for k in row[1]]), bound + taken * row[2]))
        return Asked(self.plant[4], rows, [(row[3][0] * shared, 1) for row in self.tightened])

    def from_standing(self, x):
        """What is asked of the share at which a wish leads a standing into the room."""
        numbers, den = whole(x)
        firsts, bounds = [], []
        for row, gap in zip(self.tightened, self.gaps):
            firsts.append(-den * row[3][0] * gap)
            bounds.append(firsts[-1] - row[3][1] * self.den * dot(row[0], numbers))
        return self._asked(self.den * den, firsts, bounds)

    def from_corner(self, corner):
        """What is asked of the share at which a wish leads a corner, taken to this share itself, into the room."""
        numbers, den = whole(corner)
        firsts, bounds = [], []
        for row, gap in zip(self.tightened, self.gaps):
            lost, there = den * row[3][0] * gap, row[3][1] * den * dot(row[0], self.numbers)
            firsts.append(row[3][1] * self.den * dot(row[0], numbers) - there - lost)
            bounds.append(-lost - there)
        return self._asked(self.den * den, firsts, bounds)

    def share_at(self, t):
        """The share of t, None if there is none."""
        best = None
        for corner in self.corners:
            asked = self.from_standing(point_at(self.about, t, corner))
            if best is None or asked.wish_at(best) is None:
                told = asked.end(-1)
                if told[0] == "bare":
                    return None
                best = minus((0, 1), told[1])
        return best

    def _stop(self, corner, asked, weights):
        # The stop that weights of what is asked from a corner tell.
        many, parts = len(asked.often), []
        for i, weight in enumerate(weights[:many]):
            if weight[0] > 0:
                parts.append((i, times(weight, asked.often[i]), self.tightened[i][4]))
        return (corner, tuple(parts), tuple(weights[many:-1]), weights[-1])

    def _in_order(self):
        # The corners, those ahead that may have the greatest least share and the least greatest one, if they tell.
        told = [self.from_corner(corner) for corner in self.corners]
        if not any(is_great(asked.own) for asked in told):
            return list(zip(self.corners, told))
        ends = [asked.likely_ends() for asked in told]
        first = []
        for j in (0, 1):
            known = [k for k, pair in enumerate(ends) if pair[j] is not None]
            if known:
                first.append(min(known, key=lambda k: (2 * j - 1) * ends[k][j][0] * FINE // ends[k][j][1]))
        order = first + [k for k in range(len(told)) if k not in first]
        return [(self.corners[k], told[k]) for k in order]

    def _keeps(self, asked, low, high):
        # Whether a corner is kept at both ends of what is kept so far, so that it makes them no nearer.
        if low[0][0] and asked.wish_at(low[0]) is None:
            return False
        return asked.is_endless() if high is None else asked.wish_at(high[0]) is not None

    def kept(self):
        """The ends of the kept shares: ("kept", low, high), pairs (share, stop), or what shows that there are none.

        high is None where there is no greatest share; what shows that there are none is ("none", stop), or ("apart",
        stop, stop).
        """
        low, high = None, None
        for corner, asked in self._in_order():
            if low is not None and self._keeps(asked, low, high):
                continue
            least = asked.end(-1)
            if least[0] == "bare":
                return ("none", self._stop(corner, asked, least[1]))
            share = minus((0, 1), least[1])
            if low is None or is_less(low[0], share):
                low = (share, self._stop(corner, asked, least[3]))
            most = asked.end(1)
            if most[0] == "most" and (high is None or is_less(most[1], high[0])):
                high = (most[1], self._stop(corner, asked, most[3]))
        if high is not None and is_less(high[0], low[0]):
            return ("apart", low[1], high[1])
        return ("kept", low, high)

    def wishes_at(self, t):
        """For each corner a wish by which the room is kept at a kept share, in order."""
        return tuple([self.from_corner(corner).wish_at(t) for corner in self.corners])


def kept_within(plant, room):
    """A lean room with points at the greatest share of at most 1 about its centre at which it is kept, if at any.

    It is lean; without such a share it is bare.
    """
    about = centre(room)
    kept = Shares(plant, room, about).kept()
    if kept[0] != "kept" or is_less((1, 1), kept[1][0]):
        return (room[0], bare_rows(room[0]))
    t = (1, 1)
    if kept[2] is not None and is_less(kept[2][0], t):
        t = kept[2][0]
    return lean_at(room, about, t)

"""Rooms at shares about a point: the shares that they need a step later, and those at which they are kept."""

from everygust.demands import column_sums, first_out
from everygust.forms import is_point, is_told, is_tuple_of, is_weight, is_weights
from everygust.fractions import is_less, minus, times, total
from everygust.keeping import layers
from everygust.lean import lean
from everygust.rowpapers import bad_gust, is_parts, parts_sums
from everygust.rows import is_in, slack
from everygust.solids import room_corners
from everygust.solving import form_worth
from everygust.stretches import Shares, kept_within, lean_at, point_at, rows_at
from everygust.vectors import divided


def room_at(room, centre, t):
    """A bounded room at a share about a point of it, lean."""
    return lean_at(lean(room), centre, t)


def share_at(plant, room, centre, t):
    """The share of t, None if there is none."""
    return Shares(plant, room, centre).share_at(t)


def shares(plant, room, centre, most):
    """The list of the shares from 1 on, each that of the one ahead, as long as they fall, at most most more."""
    asked, found = Shares(plant, room, centre), [(1, 1)]
    for _ in range(most):
        behind = asked.share_at(found[-1])
        if behind is None:
            break
        found.append(behind)
        if not is_less(behind, found[-2]):
            break
    return found


def kept_shares(plant, room, centre):
    """The pair of the least and the greatest kept share, None for a greatest one that is not there; None if none is."""
    kept = Shares(plant, room, centre).kept()
    if kept[0] != "kept":
        return None
    return (kept[1][0], None if kept[2] is None else kept[2][0])


def shares_paper(plant, room, centre):
    """A paper that shows the ends of the kept shares, or that there are none."""
    asked = Shares(plant, room, centre)
    kept = asked.kept()
    if kept[0] != "kept":
        return kept
    low, high = kept[1:]
    lows = asked.wishes_at(low[0])
    if high is None:
        return ("shares", low[1], lows, None, ())
    return ("shares", low[1], lows, high[1], asked.wishes_at(high[0]))


class SharesJudge:
    """Looks through the papers of shares of a room about a point, for a plant."""

    def __init__(self, plant, room, about):
        self.plant = plant
        self.room = room
        self.about = about
        self.corners = room_corners(room)
        self.gaps = [slack(row, about) for row in room[1]]

    def is_stop(self, value):
        """Whether a value has the form of a stop."""
        if not is_tuple_of(value, 4) or not is_point(self.room[0], value[0]) or not is_weight(value[3]):
            return False
        if not is_parts(value[1], len(self.room[1]), self.plant[5][0]):
            return False
        return is_weights(len(self.plant[4][1]), value[2])

    def _is_wishes(self, value):
        if not is_tuple_of(value, len(self.corners)):
            return False
        return all(is_point(self.plant[4][0], wish) for wish in value)

    def _is_shares(self, value):
        if not is_told(value, "shares", 5) or not self.is_stop(value[1]) or not self._is_wishes(value[2]):
            return False
        if value[3] is None:
            return is_tuple_of(value[4], 0)
        return self.is_stop(value[3]) and self._is_wishes(value[4])

    def stops_told(self, value):
        """The list of the pairs (stop, slope that it must have) of a paper, None if it is not in form."""
        if is_told(value, "none", 2) and self.is_stop(value[1]):
            return [(value[1], (0, 1))]
        if is_told(value, "apart", 3) and self.is_stop(value[1]) and self.is_stop(value[2]):
            return [(value[1], (-1, 1)), (value[2], (1, 1))]
        if not self._is_shares(value):
            return None
        found = [(value[1], (-1, 1))]
        if value[3] is not None:
            found.append((value[3], (1, 1)))
        return found

    def sums(self, stop):
        """The triple (what stands before the wish, slope, number) of a stop."""
        corner, parts, nu, zero = stop
        form, turn, bound = parts_sums(self.plant, self.room[1], parts, nu)
        lost = total([times(weight, self.gaps[i]) for i, weight, _ in parts])
        slope = minus(minus(form_worth(form, self._away(corner)), lost), zero)
        return (turn, slope, minus(minus(bound, lost), form_worth(form, self.about)))

    def stop_fault(self, stop, slope):
        """The first fault of a stop that must have a slope, None if there is none."""
        if stop[0] not in self.corners:
            return ("corner",)
        number = bad_gust(self.plant, stop[1])
        if number is not None:
            return ("gust", number)
        turn, told, _ = self.sums(stop)
        if any(k[0] for k in turn):
            return ("turn",)
        return None if told == slope else ("slope",)

    def is_endless(self):
        """Whether no row lets a corner be kept at few shares alone: each slope of rows is at most 0."""
        for (members, _), gap in zip(self.room[1], self.gaps):
            form = column_sums(divided(members, 1), self.plant[0], self.room[0])
            for corner in self.corners:
                if is_less(gap, form_worth(form, self._away(corner))):
                    return False
        return True

    def _away(self, corner):
        return tuple([minus(y, z) for y, z in zip(corner, self.about)])

    def wishes_fault(self, e, t, wishes):
        """The first wish that is none, or that leads the room at a share out of itself, None if there is none."""
        gusts, within = room_corners(self.plant[5]), rows_at(self.room, self.about, t)
        for j, (corner, wish) in enumerate(zip(self.corners, wishes)):
            if not is_in(self.plant[4], wish):
                return ("wish", e, j)
            gust = first_out(self.plant, gusts, point_at(self.about, t, corner), wish, within)
            if gust is not None:
                return ("out", e, j, gust)
        return None


def _ends_of(judge, stops):
    # The pair of the shares that stops of the slopes -1 and 1 tell, None for a greatest one that is not told.
    low = minus((0, 1), judge.sums(stops[0][0])[2])
    return (low, judge.sums(stops[1][0])[2] if len(stops) > 1 else None)


def _number_fault(judge, word, stops):
    if word == "none":
        return ("number",) if is_less((-1, 1), judge.sums(stops[0][0])[2]) else None
    low, high = _ends_of(judge, stops)
    if word == "apart":
        return None if is_less(high, low) else ("number",)
    if low[0] < 0 or high is not None and is_less(high, low) or high is None and not judge.is_endless():
        return ("number",)
    return None


def judge_shares(plant, room, centre, value):
    """None if a value, which may be anything, is a paper that shows the kept shares; otherwise its first fault."""
    judge = SharesJudge(plant, room, centre)
    stops = judge.stops_told(value)
    if stops is None:
        return ("form",)
    for j, (stop, slope) in enumerate(stops):
        fault = judge.stop_fault(stop, slope)
        if fault is not None:
            return (fault[0], j) + fault[1:]
    fault = _number_fault(judge, value[0], stops)
    if fault is not None or value[0] != "shares":
        return fault
    low, high = _ends_of(judge, stops)
    fault = judge.wishes_fault(0, low, value[2])
    if fault is None and high is not None:
        fault = judge.wishes_fault(1, high, value[4])
    return fault


def inner_kept(plant, walls, most):
    """The pair of the last layer that is told and a room that is kept within it, lean."""
    word, rooms = layers(plant, walls, most)
    if word != "open":
        return (rooms[-1], rooms[-1])
    return (rooms[-1], kept_within(plant, rooms[-1]))

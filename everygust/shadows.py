"""Shadows of rooms, points above points of them, and the weights that shut others out."""

from everygust.corners import corners
from everygust.errors import TooGreat, Unbounded
from everygust.forms import is_point, is_row, is_told, is_tuple_of, is_weights
from everygust.fractions import is_less
from everygust.limits import MOST_CORNERS, MOST_ROWS, bounded_tableau
from everygust.outlines import Outline
from everygust.papers import added_pair
from everygust.rows import first_broken, is_in
from everygust.settled import way_of
from everygust.solids import is_ahead
from everygust.solving import form_worth
from everygust.tableau import Tableau
from everygust.trimming import bare_rows, shown_at
from everygust.vectors import divided, dot, whole
from everygust.views import shown_view
from everygust.weights import is_bounded


def shadow(room, shown):
    """The shadow of a room at shown places, lean."""
    tableau = bounded_tableau(room)
    if tableau is None:
        return (len(shown), bare_rows(len(shown)))
    return Outline(shown_view(tableau, shown)).room()


def _dropped(n, shown):
    return [k for k in range(n) if k not in shown]


def above(room, shown, point):
    """A point of a room above a point, or weights that shut it out."""
    n, rows = room
    dropped = _dropped(n, shown)
    numbers, denominator = whole(point)
    # What stands at the dropped places is taken as often as the denominator is, so that all stays in integers.
    left = []
    for a, b in rows:
        told = dot([a[k] for k in shown], numbers)
        left.append(([a[k] for k in dropped], b * denominator - told))
    tableau = Tableau(len(dropped), left)
    bare = tableau.settle()
    if bare is not None:
        return ("none", bare)
    spot, scale = tableau.spot()
    found = dict(zip(dropped, divided(spot, scale * denominator)))
    for k, coordinate in zip(shown, point):
        found[k] = coordinate
    return ("above", tuple([found[k] for k in range(n)]))


def _first_other(shown, point, x):
    # The first shown place at which x has another number than the point, by its place among the shown ones.
    for k, place in enumerate(shown):
        if x[place] != point[k]:
            return k
    return None


def _above_fault(room, shown, point, x):
    k = _first_other(shown, point, x)
    if k is not None:
        return ("shown", k)
    k = first_broken(room, x)
    return None if k is None else ("row", k)


def _none_fault(room, shown, point, weights):
    form, bound = added_pair(room, weights)
    for place in _dropped(room[0], shown):
        if form[place][0] != 0:
            return ("sum", place)
    return None if is_less(bound, form_worth(shown_at(form, shown), point)) else ("let",)


def judge_above(room, shown, point, value):
    """None if a value, which may be anything, is such an answer and right; otherwise its first fault."""
    if is_told(value, "above", 2) and is_point(room[0], value[1]):
        return _above_fault(room, shown, point, value[1])
    if is_told(value, "none", 2) and is_weights(len(room[1]), value[1]):
        return _none_fault(room, shown, point, value[1])
    return ("form",)


def shadow_paper(room, shown):
    """A right shadow paper of a room at shown places."""
    tableau = Tableau(room[0], room[1])
    bare = tableau.settle()
    if bare is not None:
        return ("bare", bare)
    if way_of(tableau) is not None:
        raise Unbounded()
    outline = Outline(shown_view(tableau, shown))
    pairs = outline.corners()
    if len(pairs) > MOST_CORNERS:
        raise TooGreat()
    rows = outline.room()[1]
    weights = [outline.weights_of(row) for row in rows]
    return ("shadow", rows, tuple(weights), tuple(pairs))


def _is_shadow_form(room, shown, value):
    n, many, s = room[0], len(room[1]), len(shown)
    _, rows, weights, pairs = value
    if type(rows) is not tuple or len(rows) > MOST_ROWS or not all(is_row(s, row) for row in rows):
        return False
    if not is_tuple_of(weights, len(rows)) or not all(is_weights(many, some) for some in weights):
        return False
    if type(pairs) is not tuple or not pairs:
        return False
    for pair in pairs:
        if not is_tuple_of(pair, 2) or not is_point(s, pair[0]) or not is_point(n, pair[1]):
            return False
    return True


def _bare_fault(room, weights):
    form, bound = added_pair(room, weights)
    for place, number in enumerate(form):
        if number[0] != 0:
            return ("sum", 0, place)
    return None if bound[0] < 0 else ("bound", 0)


def _rows_fault(room, shown, rows, weights):
    sums = [added_pair(room, some) for some in weights]
    for k, (row, (form, _)) in enumerate(zip(rows, sums)):
        must = {place: (number, 1) for place, number in zip(shown, row[0])}
        for place, number in enumerate(form):
            if number != must.get(place, (0, 1)):
                return ("sum", k, place)
    for k, (row, (_, bound)) in enumerate(zip(rows, sums)):
        if is_less((row[1], 1), bound):
            return ("bound", k)
    return None


def _pairs_fault(room, shown, pairs):
    for k, (one, other) in enumerate(zip(pairs, pairs[1:])):
        if not is_ahead(one[0], other[0]):
            return ("order", k + 1)
    for k, (_, point) in enumerate(pairs):
        if not is_in(room, point):
            return ("point", k)
    for k, (corner, point) in enumerate(pairs):
        if _first_other(shown, corner, point) is not None:
            return ("above", k)
    return None


def _corners_fault(found, told):
    # The least point that is in one of two ascending lists alone.
    for one, other in zip(found, told):
        if one != other:
            return ("corner", one if is_ahead(one, other) else other)
    longer = found if len(found) > len(told) else told
    both = min(len(found), len(told))
    return ("corner", longer[both]) if len(longer) > both else None


def judge_shadow(room, shown, value):
    """None if a value, which may be anything, is a right shadow paper; otherwise its first fault."""
    if is_told(value, "bare", 2) and is_weights(len(room[1]), value[1]):
        return _bare_fault(room, value[1])
    if not is_told(value, "shadow", 4) or not _is_shadow_form(room, shown, value):
        return ("form",)
    _, rows, weights, pairs = value
    fault = _rows_fault(room, shown, rows, weights)
    if fault is None:
        fault = _pairs_fault(room, shown, pairs)
    if fault is not None:
        return fault
    told = (len(shown), rows)
    if not is_bounded(told):
        return ("way",)
    return _corners_fault(corners(told), [corner for corner, _ in pairs])

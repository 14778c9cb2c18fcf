"""One piece that is right by itself from a room into another one, or a lock where there is none."""

from everygust.demands import Demands, column_sums
from everygust.forms import is_number_of, is_point, is_share, is_tuple_of
from everygust.fractions import minus, plus, times
from everygust.rows import image_of, is_in, slack
from everygust.solids import solid_of
from everygust.solving import form_worth
from everygust.tableau import Tableau
from everygust.vectors import divided, dot, whole


def _piece_row(by_wish, bound, numbers, denominator):
    # What a row of wishes asks of the numbers of K, line by line, and then of k, at a corner told by integers.
    asked = [k * x for k in by_wish for x in numbers] + [k * denominator for k in by_wish]
    return (asked, bound)


def _piece_rows(plant, demands, corners):
    # The pairs (row, told) of all rows that one piece must keep: told is (why, corner, how often the row was taken).
    found = []
    for corner in corners:
        numbers, denominator = whole(corner)
        for i, (told, u, bound, scale, gust) in enumerate(demands.tightened):
            row = _piece_row(u, bound * denominator - dot(told, numbers), numbers, denominator)
            found.append((row, ((i, gust), corner, times(scale, (denominator, 1)))))
        for i, (a, b) in enumerate(plant[4][1]):
            row = _piece_row(a, b * denominator, numbers, denominator)
            found.append((row, ((i,), corner, (denominator, 1))))
    return found


def one_piece(plant, room, target):
    """A piece for all of a bounded room that is right by itself into a target, or a lock."""
    n, m = room[0], plant[4][0]
    told = _piece_rows(plant, Demands(plant, target), solid_of(room).points)
    tableau = Tableau(m * n + m, [row for row, _ in told])
    bare = tableau.settle()
    if bare is not None:
        lock = []
        for weight, (_, (why, corner, often)) in zip(bare, told):
            if weight[0] > 0:
                lock.append((why, corner, times(weight, often)))
        return ("lock", tuple(lock))
    numbers, denominator = tableau.spot()
    found = divided(numbers, denominator)
    return ("piece", tuple([found[j * n:j * n + n] for j in range(m)]), found[m * n:])


def _is_why(plant, target, value):
    if is_tuple_of(value, 1):
        return is_number_of(value[0], len(plant[4][1]))
    return is_tuple_of(value, 2) and is_number_of(value[0], len(target[1])) and is_point(plant[5][0], value[1])


def _is_lock(plant, room, target, value):
    if type(value) is not tuple:
        return False
    for told in value:
        if not is_tuple_of(told, 3) or not _is_why(plant, target, told[0]):
            return False
        if not is_point(room[0], told[1]) or not is_share(told[2]):
            return False
    return True


def _asked(plant, target, why, corner):
    # The form of wishes and the number behind that a triple tells.
    by_standing, by_wish, by_gust, still, wishes, gusts = plant
    if len(why) == 1:
        a, b = wishes[1][why[0]]
        return (divided(a, 1), (b, 1))
    row = target[1][why[0]]
    form = divided(row[0], 1)
    blown = form_worth(column_sums(form, by_gust, gusts[0]), why[1])
    bound = minus(slack(row, image_of(by_standing, corner, still)), blown)
    return (column_sums(form, by_wish, wishes[0]), bound)


def _sums_fault(plant, target, lock):
    # The triples' rows, added up: each number of the wish by the corner's coordinates, and by itself.
    m, n = plant[4][0], len(plant[0])
    numbers, every = [(0, 1)] * (m * n + m), (0, 1)
    for why, corner, weight in lock:
        form, bound = _asked(plant, target, why, corner)
        asked = [times(k, x) for k in form for x in corner] + list(form)
        numbers = [plus(one, times(weight, k)) for one, k in zip(numbers, asked)]
        every = plus(every, times(weight, bound))
    if any(k[0] for k in numbers):
        return ("turn",)
    return None if every[0] < 0 else ("sum",)


def judge_lock(plant, room, target, value):
    """None if a value, which may be anything, is a right lock for a room with points; otherwise its first fault."""
    corners = solid_of(room).points
    if not _is_lock(plant, room, target, value):
        return ("form",)
    for j, (why, corner, _) in enumerate(value):
        if corner not in corners:
            return ("corner", j)
        if len(why) == 2 and not is_in(plant[5], why[1]):
            return ("gust", j)
    return _sums_fault(plant, target, value)

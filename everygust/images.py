"""Sections and images of rooms, sums of rooms, and what is left of a room less another one."""

from everygust.errors import Bare
from everygust.forms import is_point, is_tuple_of, is_weights
from everygust.fractions import fraction_of, is_less, minus, total
from everygust.limits import bounded_tableau, few_lean
from everygust.outlines import Outline
from everygust.papers import added_pair, unlike_place
from everygust.rows import is_in, reach, row_of
from everygust.settled import settled
from everygust.solving import greatest_at
from everygust.trimming import bare_rows
from everygust.vectors import divided
from everygust.views import SumView, shown_view, taken_view


def section(room, place, fraction):
    """The section of a room with a fraction at a place."""
    p, q = fraction
    rows = []
    for a, b in room[1]:
        rest = divided(a[:place] + a[place + 1:], 1)
        rows.append(row_of(rest, fraction_of(b * q - a[place] * p, q)))
    return few_lean((room[0] - 1, tuple(rows)))


def image(matrix, shift, room):
    """What a matrix and a shift take the points of a bounded room to."""
    tableau = bounded_tableau(room)
    if tableau is None:
        return (len(matrix), bare_rows(len(matrix)))
    return Outline(taken_view(tableau, matrix, shift)).room()


def _before_row(n, matrix, shift, row):
    # What a row asks of a point of n by asking it of the point that this one is taken to.
    a, b = row
    members = [total([(k * line[j][0], line[j][1]) for k, line in zip(a, matrix)]) for j in range(n)]
    return row_of(tuple(members), minus((b, 1), reach(row, shift)))


def before(n, matrix, shift, room):
    """What comes before a room: all points of n that a matrix and a shift take into it."""
    return few_lean((n, tuple([_before_row(n, matrix, shift, row) for row in room[1]])))


def added(room, other):
    """The sum of two bounded rooms."""
    n = room[0]
    one, two = bounded_tableau(room), bounded_tableau(other)
    if one is None or two is None:
        return (n, bare_rows(n))
    places = list(range(n))
    return Outline(SumView(shown_view(one, places), shown_view(two, places))).room()


def _left_row(tableau, row):
    # What a row asks of all points that it lets by with each point of a tableau's room added, None if of no point.
    answer = greatest_at(tableau, divided(row[0], 1))
    if answer[0] == "far":
        return None
    return row_of(divided(row[0], 1), minus((row[1], 1), answer[1]))


def shrunk(room, other):
    """What is left of a room less another one: the points that stay in it with each point of the other one added."""
    n = room[0]
    tableau = settled(other)
    if tableau is None:
        return (n, ())
    rows = [_left_row(tableau, row) for row in room[1]]
    if any(row is None for row in rows):
        return (n, bare_rows(n))
    return few_lean((n, tuple(rows)))


def rest_paper(room, other):
    """A right rest paper of a room and another one, which has points and is bounded."""
    tableau = bounded_tableau(other)
    if tableau is None:
        raise Bare()
    answers = [greatest_at(tableau, divided(a, 1)) for a, _ in room[1]]
    return tuple([answer[2:] for answer in answers])


def _is_rest_form(room, other, value):
    if not is_tuple_of(value, len(room[1])):
        return False
    for pair in value:
        if not is_tuple_of(pair, 2) or not is_point(other[0], pair[0]) or not is_weights(len(other[1]), pair[1]):
            return False
    return True


def judge_rest(room, other, value):
    """None if a value, which may be anything, is a right rest paper; otherwise its first fault."""
    if not _is_rest_form(room, other, value):
        return ("form",)
    for k, (point, _) in enumerate(value):
        if not is_in(other, point):
            return ("point", k)
    sums = [added_pair(other, weights) for _, weights in value]
    for k, ((a, _), (form, _)) in enumerate(zip(room[1], sums)):
        place = unlike_place(form, divided(a, 1))
        if place is not None:
            return ("sum", k, place)
    for k, (row, (point, _), (_, bound)) in enumerate(zip(room[1], value, sums)):
        if is_less(reach(row, point), bound):
            return ("great", k)
    return None

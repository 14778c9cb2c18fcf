"""Hulls of finitely many points, and whether a point is in one."""

from everygust.echelon import independent, rank
from everygust.errors import TooGreat
from everygust.forms import is_ascending, is_number_of, is_row, is_told, is_tuple_of
from everygust.fractions import minus
from everygust.lattice import figures
from everygust.limits import MOST_ROWS
from everygust.means import above_one, is_mean_form, mean_fault
from everygust.rows import is_in, plain_row, row_of, slack
from everygust.solids import ascending_points, solid_of
from everygust.solving import mixed
from everygust.spans import Span
from everygust.trimming import bare_rows


def _span_of(n, points):
    span = Span(n, points)
    if len(span.trim.rows()) > MOST_ROWS:
        raise TooGreat()
    return span


def hull(n, points):
    """The hull of some points of n, a lean room."""
    if not points:
        return (n, bare_rows(n))
    return (n, tuple(_span_of(n, points).trim.rows()))


def hull_corners(n, points):
    """The ascending list of the numbers of the points that are corners of the hull, of equal ones the first."""
    return Span(n, points).corner_numbers() if points else []


def _spots(span, points):
    # A corner is told by the first point equal to it.
    return tuple([number for _, number in ascending_points([(points[k], k) for k in span.corner_numbers()])])


def hull_paper(n, points):
    """A hull paper of at least one point and their hull."""
    span = _span_of(n, points)
    lots = []
    for met in span.met:
        tight = figures(met, len(span.numbers))
        chosen = independent([span.vectors[k] for k in tight], len(span.trim.free))
        lots.append(tuple([span.numbers[tight[k]] for k in chosen]))
    return (tuple(lots), _spots(span, points))


def _is_hull_form(value, sides, d, many):
    if not is_tuple_of(value, 2) or not is_tuple_of(value[0], sides) or type(value[1]) is not tuple:
        return False
    for lot in value[0]:
        if not is_tuple_of(lot, d) or not all(is_number_of(k, many) for k in lot) or not is_ascending(lot):
            return False
    return all(is_number_of(k, many) for k in value[1])


def _lots_fault(points, sides, lots):
    for i, (row, lot) in enumerate(zip(sides, lots)):
        for k in lot:
            if slack(row, points[k])[0] != 0:
                return ("tight", i, k)
    for i, lot in enumerate(lots):
        if rank([above_one(points[k]) for k in lot]) < len(lot):
            return ("flat", i)
    return None


def _spots_fault(points, corners, spots):
    for j, corner in enumerate(corners):
        equal = [k for k, point in enumerate(points) if point == corner]
        if j >= len(spots) or not equal or spots[j] != equal[0]:
            return ("corner", j)
    return ("spare",) if len(spots) > len(corners) else None


def judge_hull(n, points, room, value):
    """None if a value, which may be anything, is a hull paper for points and a lean room; otherwise its first fault."""
    solid = solid_of(room)
    sides = solid.trim.sides
    if not _is_hull_form(value, len(sides), solid.dimension, len(points)):
        return ("form",)
    for k, point in enumerate(points):
        if not is_in(room, point):
            return ("outside", k)
    fault = _lots_fault(points, sides, value[0])
    return fault if fault is not None else _spots_fault(points, solid.points, value[1])


def _ended(points):
    # With a 1 at its end, what makes a point makes the sum 1, too.
    return [tuple(point) + ((1, 1),) for point in points]


def within(n, points, point):
    """The pairs by which a point is a mean of some points, or a plain row that lets all of these by and not it."""
    if not points:
        return ("row", ((0,) * n, -1))
    paper = mixed(_ended(points), _ended([point])[0])
    if paper[0] == "mixed":
        return ("mean", tuple([(k, weight) for k, weight in enumerate(paper[1]) if weight[0] > 0]))
    return ("row", row_of(paper[1][:-1], minus((0, 1), paper[1][-1])))


def judge_within(n, points, point, value):
    """None if a value, which may be anything, is such an answer; otherwise its first fault."""
    if is_told(value, "mean", 2) and is_mean_form(value[1], len(points)):
        return mean_fault(value[1], points, point)
    if not is_told(value, "row", 2) or not is_row(n, value[1]) or plain_row(value[1]) != value[1]:
        return ("form",)
    for k, one in enumerate(points):
        if slack(value[1], one)[0] < 0:
            return ("point", k)
    return ("kept",) if slack(value[1], point)[0] >= 0 else None

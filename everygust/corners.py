"""Corners of rooms, and what is told by them at once."""

from everygust.echelon import rank
from everygust.errors import Bare
from everygust.fractions import highest, is_less, lowest, times, total
from everygust.rows import is_in, slack, tight_rows
from everygust.solids import solid_of
from everygust.solving import form_worth
from everygust.trimming import trimmed


def corners(room):
    """The ascending list of the corners."""
    return solid_of(room).points


def is_corner(room, point):
    """Whether a point is a corner of any room."""
    if not is_in(room, point):
        return False
    return rank([room[1][k][0] for k in tight_rows(room, point)]) == room[0]


def dimension(room):
    """The dimension of any room, -1 if it is bare."""
    trim = trimmed(room)
    return -1 if trim is None else len(trim.free)


def is_inner(room, point):
    """Whether a point of any room with points is an inner one."""
    trim = trimmed(room)
    if trim is None:
        raise Bare()
    return is_in(room, point) and all(slack(row, point)[0] > 0 for row in trim.sides)


def centre(room):
    """The mean of all corners, with equal weights."""
    points = corners(room)
    share = (1, len(points))
    return tuple([times(share, total([point[k] for point in points])) for k in range(room[0])])


def box(room):
    """The pairs of the least and the greatest number of each coordinate."""
    points = corners(room)
    found = []
    for k in range(room[0]):
        numbers = [point[k] for point in points]
        found.append((lowest(numbers), highest(numbers)))
    return tuple(found)


def top(room, form):
    """The greatest worth of a form, and the numbers of the corners that have it."""
    worths = [form_worth(form, point) for point in corners(room)]
    value = highest(worths)
    return (value, tuple([k for k, one in enumerate(worths) if not is_less(one, value)]))
